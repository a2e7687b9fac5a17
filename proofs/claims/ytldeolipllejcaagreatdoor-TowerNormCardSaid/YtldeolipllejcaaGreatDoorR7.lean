/- Walks and laws, a part. -/
import Derived.Test.YtldeolipllejcaaGreatDoorR6
import Derived.Test.YtldeolipllejcaaGreatDoorR4
import Derived.Test.YtldeolipllejcaaGreatDoorR2
import Derived.Test.YtldeolipllejcaaGreatDoorR1
import Derived.Test.YtldeolipllejcaaGreatDoorR0
import Derived.Deep.Slices
import Derived.WalkKit
set_option linter.unusedSimpArgs false
set_option linter.unusedVariables false
set_option maxHeartbeats 64000000
namespace Go.Proofs.YtldeolipllejcaaGreatDoor
section
open Go.RowKit
structure RawT (w : World) (A : Option Addr) (n c : Nat) (ts : List (List RawR)) : Prop where
 len : ts.length = n
 cap : n <= c
 top : c <= maxLen
 at_ : ts ≠ [] -> ∃ b off, A = some ⟨b, off, none⟩ /\ ∀ i (h : i < ts.length), ∃ A' n' c', w.cell? ⟨b, off + i, none⟩ = some (.slice A' n' c') /\ RawP w A' n' c' ts[i]
structure PolT (w : World) (A : Option Addr) (n c : Nat) (ts : List (List Rat)) (L : Nat) : Prop where
 len : ts.length = n
 cap : n <= c
 top : c <= maxLen
 at_ : ts ≠ [] -> ∃ b off, A = some ⟨b, off, none⟩ /\ ∀ i (h : i < ts.length), ∃ A' n' c', w.cell? ⟨b, off + i, none⟩ = some (.slice A' n' c') /\ Pol w A' n' c' ts[i] L
def RawR.valid (r : RawR) : Bool := validQ r.s r.xs r.t r.ys
def RawR.le (r : RawR) (k : Nat) : Bool := decide (r.xs.length <= k) && decide (r.ys.length <= k)
def validL (rs : List RawR) (k : Nat) : Bool := decide (rs.length = k) && rs.all RawR.valid
def towerB : List (List RawR) -> Nat -> Bool
 | [], _ => true
 | l :: ts, k => validL l (2 ^ k) && towerB ts (k + 1)
def fewL (ts : List (List RawR)) : Bool := ts.all fun l => decide (l.length <= 16) && l.all fun r => r.le 4
section
variable {w w' : World} {ts us : List (List RawR)} {qs : List (List Rat)} {rs : List RawR} {ps : List Rat} {A B : Option Addr} {n c m d b o k L M : Nat}
theorem RawT.ext (h : RawT w A n c ts) (e : Ext w w') : RawT w' A n c ts :=
 ⟨h.len, h.cap, h.top, fun hq => by
  obtain ⟨b, off, h1, h2⟩ := h.at_ hq;refine ⟨b, off, h1, fun i hi => ?_⟩;obtain ⟨A', n', c', h3, h4⟩ := h2 i hi;exact ⟨A', n', c', e.cellv h3, h4.ext e⟩⟩
theorem PolT.ext (h : PolT w A n c qs L) (e : Ext w w') : PolT w' A n c qs L :=
 ⟨h.len, h.cap, h.top, fun hq => by
  obtain ⟨b, off, h1, h2⟩ := h.at_ hq;refine ⟨b, off, h1, fun i hi => ?_⟩;obtain ⟨A', n', c', h3, h4⟩ := h2 i hi;exact ⟨A', n', c', e.cellv h3, h4.ext e⟩⟩
theorem RawT.none (w : World) : RawT w none 0 0 [] := ⟨rfl, Nat.le_refl _, Nat.zero_le _, fun h => absurd rfl h⟩
theorem RawT.one {g : Nat} {T : TypeId} (hb : Box w g T #[.slice A n c]) (h : RawP w A n c rs) : RawT w (some ⟨g, 0, .none⟩) 1 1 [rs] :=
 ⟨rfl, Nat.le_refl _, by unfold maxLen; omega, fun _ => ⟨g, 0, rfl, fun i hi => by
  have hi' : i = 0 := by simp at hi; omega
  subst hi';exact ⟨A, n, c, hb.cell 0 _ rfl, h⟩⟩⟩
theorem RawT.two {g : Nat} {T : TypeId} {rs' : List RawR} (hb : Box w g T #[.slice A n c, .slice B m d]) (h : RawP w A n c rs) (h' : RawP w B m d rs') : RawT w (some ⟨g, 0, .none⟩) 2 2 [rs, rs'] :=
 ⟨rfl, Nat.le_refl _, by unfold maxLen; omega, fun _ => ⟨g, 0, rfl, fun i hi => by
  have hi' : i = 0 \/ i = 1 := by simp at hi; omega
  rcases hi' with rfl | rfl
  ·exact ⟨A, n, c, hb.cell 0 _ rfl, h⟩
  ·exact ⟨B, m, d, hb.cell 1 _ rfl, h'⟩⟩⟩
theorem RawT.take (h : RawT w A n c ts) {k : Nat} (hk : k <= n) : RawT w A k c (ts.take k) := by
 refine ⟨by rw [List.length_take, h.len]; omega, Nat.le_trans hk h.cap, h.top, fun hq => ?_⟩;obtain ⟨b, off, h1, h2⟩ := h.at_ (fun e => hq (by rw [e]; simp));refine ⟨b, off, h1, fun i hi => ?_⟩;have hi' : i < ts.length := by rw [List.length_take] at hi; omega
 rw [List.getElem_take];exact h2 i hi'
theorem PolT.take (h : PolT w A n c qs L) {k : Nat} (hk : k <= n) : PolT w A k c (qs.take k) L := by
 refine ⟨by rw [List.length_take, h.len]; omega, Nat.le_trans hk h.cap, h.top, fun hq => ?_⟩;obtain ⟨b, off, h1, h2⟩ := h.at_ (fun e => hq (by rw [e]; simp));refine ⟨b, off, h1, fun i hi => ?_⟩;have hi' : i < qs.length := by rw [List.length_take] at hi; omega
 rw [List.getElem_take];exact h2 i hi'
theorem RawP.polV (h : RawP w A n c rs) (hs : rs.all RawR.valid = true) (hl : rs.all (fun r => r.le L) = true) : Pol w A n c (rs.map RawR.q) L := by
 refine ⟨by rw [List.length_map]; exact h.len, h.cap, h.top, fun hq => ?_⟩;obtain ⟨b, off, h1, h2⟩ := h.at_ (fun e => hq (by rw [e]; rfl));refine ⟨b, off, h1, ⟨fun i hi => ?_⟩⟩;have hi' : i < rs.length := by rw [List.length_map] at hi; exact hi
 obtain ⟨A, n, c, B, m, d, h0, h1, h2, h3, h4, h5⟩ := h2 i hi';have hsi := List.all_eq_true.1 hs rs[i] (List.getElem_mem hi');have hli := List.all_eq_true.1 hl rs[i] (List.getElem_mem hi');unfold RawR.le at hli;simp only [Bool.and_eq_true, decide_eq_true_eq] at hli;rw [List.getElem_map];exact ⟨_, A, n, c, _, B, m, d, h0, h1, h2, h3, NR.of_raw' h4 h5 hsi (by rw [<- h4.len]; exact hli.1) (by rw [<- h5.len]; exact hli.2)⟩
theorem RawT.polT (h : RawT w A n c ts) (hs : ∀ l ∈ ts, l.all RawR.valid = true) (hl : ∀ l ∈ ts, l.all (fun r => r.le L) = true) : PolT w A n c (ts.map fun l => l.map RawR.q) L := by
 refine ⟨by rw [List.length_map]; exact h.len, h.cap, h.top, fun hq => ?_⟩;obtain ⟨b, off, h1, h2⟩ := h.at_ (fun e => hq (by rw [e]; rfl));refine ⟨b, off, h1, fun i hi => ?_⟩;have hi' : i < ts.length := by rw [List.length_map] at hi; exact hi
 obtain ⟨A', n', c', h3, h4⟩ := h2 i hi';rw [List.getElem_map];exact ⟨A', n', c', h3, h4.polV (hs _ (List.getElem_mem hi')) (hl _ (List.getElem_mem hi'))⟩
theorem towerB_app : ∀ (ts us : List (List RawR)) (k : Nat), towerB (ts ++ us) k = (towerB ts k && towerB us (k + ts.length))
 | [], us, k => by simp [towerB]
 | l :: ts, us, k => by
  rw [List.cons_append, towerB, towerB, towerB_app ts us (k + 1), Bool.and_assoc, List.length_cons]
  congr 3
  omega
theorem towerB_step {i : Nat} (hi : i < ts.length) (h : towerB (ts.take i) 0 = true) : towerB (ts.take (i + 1)) 0 = validL ts[i] (2 ^ i) := by
 rw [List.take_succ_eq_append_getElem hi, towerB_app, h, Bool.true_and, List.length_take, Nat.min_eq_left (by omega), Nat.zero_add, towerB, towerB, Bool.and_true]
theorem towerB_stop {i : Nat} (hi : i < ts.length) (h : validL ts[i] (2 ^ i) = false) : towerB ts 0 = false := by
 rw [<- List.take_append_drop i ts, towerB_app, List.length_take, Nat.min_eq_left (by omega), Nat.zero_add, List.drop_eq_getElem_cons hi, towerB, h];simp
end
end
section
open Go.RowKit
attribute [local go_sem ↓] Go.wp_at_zero Go.wp_at_succ
def formedB (ts us : List (List RawR)) : Bool := towerB ts 0 && us.all fun l => validL l (2 ^ ts.length)
section
variable {w w' : World} {q x : Rat} {L M : Nat} {s t : Bool} {A B : Option Addr} {n c m d : Nat} {sx tx : Bool} {Ax Bx : Option Addr} {nx cx mx dx : Nat} {qs ps : List Rat} {rs : List RawR} {ts us : List (List RawR)}
theorem p_validT (h : RawP w A n c rs) (k : Nat) (hk0 : k <= 100000) (hr : rs.all (fun r => r.le 1000) = true) (hT : Tab w) : Calls Tryz.prog 91 #[.slice A n c, .int .i64 (k : Int)] w fun e w' => e = .returned (.bool (validL rs k)) /\ Ext w w' := by
 have Hlen := Lib.hid h.len
 by_cases hb : n = k
 ·subst hb
  go_enter Tryz.func91, Tryz.ntmps91
  go_wp2_with fail
  go_loopw [13] (fun i wr => ∃ k : Nat, k <= n /\ i = .int .i64 (k : Int) /\ Ext w wr /\ (rs.take k).all RawR.valid = true) (fun i _ => n - (intOf i).toNat)
  case atStart => exact ⟨0, by omega, rfl, Ext.refl _, by simp⟩
  case round =>
   obtain ⟨k, hk, rfl, ext, hall⟩ := hrel;have HA := Lib.hid hall;clear hall
   by_cases hlt : k < n
   ·have hj : k < rs.length := by rw [Hlen.out]; exact hlt
    have hI : (k : Int) < (n : Int) := by omega
    obtain ⟨p, off, rfl, hr'⟩ := h.at_ (fun e => by rw [e] at hj; exact absurd hj (Nat.not_lt_zero _));obtain ⟨Ax, nx, cx, Bx, mx, dx, e0, e1, e2, e3, hx, hy⟩ := (hr' k hj).ext ext;have HT := Lib.hid (show (rs.take (k + 1)).all RawR.valid = ((rs.take k).all RawR.valid && RawR.valid rs[k]) by rw [List.take_succ_eq_append_getElem hj, List.all_append]; simp)
    have HM := Lib.hid (fun hf : RawR.valid rs[k] = false => show validL rs n = false by
     unfold validL;rw [Bool.and_eq_false_iff]
     right
     rw [List.all_eq_false];exact ⟨rs[k], List.getElem_mem hj, by rw [hf]; simp⟩)
    have hle := List.all_eq_true.1 hr rs[k] (List.getElem_mem hj);unfold RawR.le at hle;simp only [Bool.and_eq_true, decide_eq_true_eq] at hle;have l1 := hle.1;have l2 := hle.2;have x1 := hx.len;have x2 := hy.len;clear hle;generalize rs[k] = r at e0 e1 e2 e3 hx hy HT HM l1 l2 x1 x2;have l3 : nx <= 1000 := by omega
    have l4 : mx <= 1000 := by omega
    clear l1 l2 x1 x2;have e0' : wr.cell? ⟨p, off + k * 4, none⟩ = some (.bool r.s) := by rw [Nat.mul_comm]; exact e0
    have e1' : wr.cell? ⟨p, off + k * 4 + 1, none⟩ = some (.slice Ax nx cx) := by rw [Nat.mul_comm]; exact e1
    have e2' : wr.cell? ⟨p, off + k * 4 + 2, none⟩ = some (.bool r.t) := by rw [Nat.mul_comm]; exact e2
    have e3' : wr.cell? ⟨p, off + k * 4 + 3, none⟩ = some (.slice Bx mx dx) := by rw [Nat.mul_comm]; exact e3
    go_upto_region 6 with (fail)
    obtain ⟨W, hW, extW, bx, hz⟩ := box1 wr 30 #[.bool r.s, .slice Ax nx cx, .bool r.t, .slice Bx mx dx];rw [<- hW];clear hW hz;have x0 := bx.cell 0 (.bool r.s) rfl;have x1 := bx.cell 1 (.slice Ax nx cx) rfl;have x2 := bx.cell 2 (.bool r.t) rfl;have x3 := bx.cell 3 (.slice Bx mx dx) rfl;replace ext := ext.trans extW
    cases hs : validQ r.s r.xs r.t r.ys with
    | false =>
     have HS := Lib.hid hs;clear hs
     go_wp2_with fail
     refine (p_ValidRaw (hx.ext extW) (hy.ext extW) (by omega) (by omega) (hT.ext ext)).mono ?_;rintro e V ⟨rfl, hxv⟩;rw [HS.out]
     go_wp2_with fail
     go_ret
     exact ⟨by rw [HM.out HS.out]; rfl, ext.trans hxv⟩
    | true =>
     have HS := Lib.hid hs;clear hs
     go_wp2_with fail
     refine (p_ValidRaw (hx.ext extW) (hy.ext extW) (by omega) (by omega) (hT.ext ext)).mono ?_;rintro e V ⟨rfl, hxv⟩;rw [HS.out]
     go_wp2_with fail
     go_roundw
     case rel => exact ⟨k + 1, by omega, by go_num, ext.trans hxv, by rw [HT.out, HA.out]; exact HS.out⟩
     case measure => simp [intOf]; omega
   ·have hI : (n : Int) <= (k : Int) := by omega
    go_wp2_with fail
    go_ret
    refine ⟨?_, ext⟩;have ha := HA.out;rw [List.take_of_length_le (by rw [Hlen.out]; omega)] at ha;have : validL rs n = true := by unfold validL; rw [ha, Hlen.out]; simp
    rw [this]; rfl
 ·have hg : ((n : Int) == (k : Int)) = false := beq_eq_false_iff_ne.2 (by omega)
  have hs : validL rs k = false := by unfold validL; rw [Hlen.out, decide_eq_false hb]; rfl
  rw [hs];clear hs
  go_enter Tryz.func91, Tryz.ntmps91
  go_wp2_with fail
  go_ret
  exact ⟨rfl, Ext.refl _⟩
theorem p_formedT (h : RawT w A n c ts) (k : RawT w B m d us) (hn : n <= 16) (hm : m <= 16) (hr : ∀ l ∈ ts, l.all (fun r => r.le 1000) = true) (hr' : ∀ l ∈ us, l.all (fun r => r.le 1000) = true) (hT : Tab w) :
  Calls Tryz.prog 49 #[.slice A n c, .slice B m d] w fun e w' => e = .returned (.bool (formedB ts us)) /\ Ext w w' := by
 have Hlen := Lib.hid h.len;have Hlen' := Lib.hid k.len
 go_enter Tryz.func49, Tryz.ntmps49
 go_wp2_with fail
 go_loopw [5, 12] (fun ln i wr => ∃ j P : Nat, j <= n /\ P = 2 ^ j /\ i = .int .i64 (j : Int) /\ ln = .int .i64 (P : Int) /\ Ext w wr /\ towerB (ts.take j) 0 = true) (fun _ i _ => n - (intOf i).toNat)
 case atStart => exact ⟨0, 1, by omega, rfl, rfl, rfl, Ext.refl _, rfl⟩
 case round =>
  obtain ⟨j, P, hj, hP, rfl, rfl, ext, hall⟩ := hrel
  have hPb : P <= 65536 := by
   rw [hP];exact Nat.le_trans (Nat.pow_le_pow_right (by omega) (show j <= 16 by omega)) (by decide)
  have HA := Lib.hid hall;have HP := Lib.hid hP;clear hall hP
  by_cases hlt : j < n
  ·have hjl : j < ts.length := by rw [Hlen.out]; exact hlt
   have hI : (j : Int) < (n : Int) := by omega
   obtain ⟨p, off, rfl, hr0⟩ := h.at_ (fun e => by rw [e] at hjl; exact absurd hjl (Nat.not_lt_zero _));obtain ⟨A', n', c', e0, hx⟩ := hr0 j hjl;replace e0 := ext.cellv e0;have hle := hr ts[j] (List.getElem_mem hjl);have HT := Lib.hid (towerB_step hjl HA.out);have HM := Lib.hid (fun hf : validL ts[j] (2 ^ j) = false => towerB_stop hjl hf);generalize ts[j] = l at hx hle HT HM
   cases hs : validL l P with
   | false =>
    have HS := Lib.hid hs;clear hs
    go_wp2_with fail
    refine (p_validT (hx.ext ext) P (by omega) hle (hT.ext ext)).mono ?_;rintro e V ⟨rfl, hxv⟩;rw [HS.out]
    go_wp2_with fail
    go_ret
    exact ⟨by unfold formedB; rw [HM.out (by rw [<- HP.out]; exact HS.out)]; rfl, ext.trans hxv⟩
   | true =>
    have HS := Lib.hid hs;clear hs
    go_wp2_with fail
    refine (p_validT (hx.ext ext) P (by omega) hle (hT.ext ext)).mono ?_;rintro e V ⟨rfl, hxv⟩;rw [HS.out]
    go_wp2_with fail
    go_roundw
    case rel => exact ⟨j + 1, P * 2, by omega, by rw [Nat.pow_succ, HP.out], by go_num, by go_num, ext.trans hxv, by rw [HT.out, <- HP.out]; exact HS.out⟩
    case measure => simp [intOf]; omega
  ·have hI : (n : Int) <= (j : Int) := by omega
   have hjn : j = n := by omega
   have ha := HA.out;rw [List.take_of_length_le (by rw [Hlen.out]; omega)] at ha;have Ha := Lib.hid ha;have hP2 : P = 2 ^ ts.length := by rw [HP.out, hjn, Hlen.out]
   have HP2 := Lib.hid hP2;clear ha hP2 hjn
   go_wp2_with fail
   go_loopw [25] (fun i wr => ∃ o : Nat, o <= m /\ i = .int .i64 (o : Int) /\ Ext w wr /\ (us.take o).all (fun l => validL l P) = true) (fun i _ => m - (intOf i).toNat)
   case atStart => exact ⟨0, by omega, rfl, ext, by simp⟩
   case round =>
    clear ext;obtain ⟨o, ho, rfl, ext, hall⟩ := hrel;have HO := Lib.hid hall;clear hall
    by_cases hlt : o < m
    ·have hjl : o < us.length := by rw [Hlen'.out]; exact hlt
     have hI : (o : Int) < (m : Int) := by omega
     obtain ⟨p, off, rfl, hr0⟩ := k.at_ (fun e => by rw [e] at hjl; exact absurd hjl (Nat.not_lt_zero _));obtain ⟨A', n', c', e0, hx⟩ := hr0 o hjl;replace e0 := ext.cellv e0;have hle := hr' us[o] (List.getElem_mem hjl);have HT := Lib.hid (show (us.take (o + 1)).all (fun l => validL l P) = ((us.take o).all (fun l => validL l P) && validL us[o] P) by rw [List.take_succ_eq_append_getElem hjl, List.all_append]; simp)
     have HM := Lib.hid (fun hf : validL us[o] P = false => show us.all (fun l => validL l P) = false by
      rw [List.all_eq_false];exact ⟨us[o], List.getElem_mem hjl, by rw [hf]; simp⟩)
     generalize us[o] = l at hx hle HT HM
     cases hs : validL l P with
     | false =>
      have HS := Lib.hid hs;clear hs
      go_wp2_with fail
      refine (p_validT (hx.ext ext) P (by omega) hle (hT.ext ext)).mono ?_;rintro e V ⟨rfl, hxv⟩;rw [HS.out]
      go_wp2_with fail
      go_ret
      exact ⟨by unfold formedB; rw [<- HP2.out, HM.out HS.out, Bool.and_false]; rfl, ext.trans hxv⟩
     | true =>
      have HS := Lib.hid hs;clear hs
      go_wp2_with fail
      refine (p_validT (hx.ext ext) P (by omega) hle (hT.ext ext)).mono ?_;rintro e V ⟨rfl, hxv⟩;rw [HS.out]
      go_wp2_with fail
      go_roundw
      case rel => exact ⟨o + 1, by omega, by go_num, ext.trans hxv, by rw [HT.out, HO.out]; exact HS.out⟩
      case measure => simp [intOf]; omega
    ·have hI : (m : Int) <= (o : Int) := by omega
     go_wp2_with fail
     go_ret
     refine ⟨?_, ext⟩;have ho := HO.out;rw [List.take_of_length_le (by rw [Hlen'.out]; omega)] at ho;have : formedB ts us = true := by unfold formedB; rw [Ha.out, <- HP2.out, ho]; rfl
     rw [this]; rfl
end
def zeroB (qs : List Rat) : Bool := qs.all fun q => decide (q = 0)
section
variable {w w' : World} {q x : Rat} {L M : Nat} {s t : Bool} {A B : Option Addr} {n c m d : Nat} {sx tx : Bool} {Ax Bx : Option Addr} {nx cx mx dx : Nat} {qs ps : List Rat} {rs : List RawR} {ts us : List (List RawR)}
theorem p_cloneT (h : NR w q L s A n c t B m d) (hL : L <= 100000) : Calls Tryz.prog 52 #[.agg #[.bool s, .slice A n c, .bool t, .slice B m d]] w (RetNR q L w) := by
 go_enter Tryz.func52, Tryz.ntmps52
 go_upto_region 1 with (fail)
 obtain ⟨W, hW, extW, bx, bz, hz⟩ := box2 w 30 30 #[.bool s, .slice A n c, .bool t, .slice B m d] #[Value.bool false, Value.slice none 0 0, Value.bool false, Value.slice none 0 0];rw [<- hW];clear hW;refine wpL.st 7 (fun hQ ES => ?_);refine wpL.t 0 3 ?v_0 hQ ?y_0 ES ?_
 case y_0 => intro w' hSw;go_simp;try rfl
 try simp only [zP]
 refine wpL.t 3 6 ?v_1 hQ ?y_1 ES ?_
 case y_1 => intro w' hSw;go_simp;try rfl
 try simp only [zP]
 refine wpL.t 1 4 ?v_2 hQ ?y_2 ES ?_
 case y_2 => intro w' hSw;have k00 := (bx.ext hSw).c4;go_simp;try rfl
 try simp only [zP]
 refine wpL.t 4 7 ?v_3 hQ ?y_3 ES ?_
 case y_3 => intro w' hSw;have k00 := (bx.ext hSw).c4;go_simp;try rfl
 try simp only [zP]
 refine wpL.cl (i := 2) rfl (fun K hK => ?_);go_simp
 (go_at_call 92; refine (p_Norm (h.num.ext (extW.trans ES)) hL).mono ?_; rintro e wa ⟨s1, A1, n1, c1, rfl, h1, hx0⟩; have E0_1 := Ext.trans ES hx0)
 refine hK.out _ _ E0_1 ?_;clear hK K
 try simp only [zP]
 refine wpL.cl (i := 5) rfl (fun K hK => ?_);go_simp
 (go_at_call 92; refine (p_Norm (h.den.ext (extW.trans E0_1)) hL).mono ?_; rintro e wb ⟨s2, A2, n2, c2, rfl, h2, hx1⟩; have E1_1 := Ext.trans E0_1 hx1)
 refine hK.out _ _ E1_1 ?_;clear hK K
 try simp only [zP]
 refine wpL.t 6 9 ?v_4 hQ ?y_4 E1_1 ?_
 case y_4 => intro w' hSw;go_simp;try rfl
 try simp only [zP]
 have z0 := (bz.ext E1_1).cell 0 _ rfl;have z1 := (bz.ext E1_1).cell 1 _ rfl;have z2 := (bz.ext E1_1).cell 2 _ rfl;have z3 := (bz.ext E1_1).cell 3 _ rfl;have f0 := (bz.ext E1_1).frozen 0;have f1 := (bz.ext E1_1).frozen 1;have f2 := (bz.ext E1_1).frozen 2;have f3 := (bz.ext E1_1).frozen 3;refine wpL.tl (i := 7) rfl (fun K hK => ?_);go_simp;refine hK.out _ _ ?_;clear hK K
 try simp only [zP]
 refine wpL.done (by kernel_rfl) ?_ _;clear hQ
 go_wp2_with fail
 obtain ⟨b1, b2, b3, b4⟩ := fin_quad (s := s1) (A := A1) (n := n1) (c := c1) (t := s2) (B := A2) (m := n2) (d := c2) (bz.ext E1_1);have r0 := b1.cell 0 (.bool s1) rfl;have r1 := b1.cell 1 (.slice A1 n1 c1) rfl;have r2 := b1.cell 2 (.bool s2) rfl;have r3 := b1.cell 3 (.slice A2 n2 c2) rfl;unfold set4 at r0 r1 r2 r3;refine bodyPost_ret (v := .agg #[.bool s1, .slice A1 n1 c1, .bool s2, .slice A2 n2 c2]) (by simp [results, Tryz.results52, go_sem, r0, r1, r2, r3]) rfl ⟨s1, A1, n1, c1, s2, A2, n2, c2, rfl, ⟨?_, ?_⟩, b3 _ (extW.trans E1_1) (by omega)⟩
 ·exact b2 _ _ _ _ _ _ (h1.ext hx1)
 ·exact b2 _ _ _ _ _ _ h2
theorem p_zerosT (n : Nat) (hn : n <= 1000) : Calls Tryz.prog 51 #[.int .i64 (n : Int)] w fun e w' => e = .returned (.slice (some ⟨w.heap.size, 0, none⟩) n n) /\ Fill w' w.heap.size n (List.replicate n 0) 2 /\ Ext w w' := by
 have hmk := mk_rats n (by omega)
 go_enter Tryz.func51, Tryz.ntmps51
 go_wp2_with fail
 go_loopw [9] (fun i wr => ∃ k : Nat, k <= n /\ i = .int .i64 (k : Int) /\ Ext w wr /\ Fill wr w.heap.size n (List.replicate k 0) 2) (fun i _ => n - (intOf i).toNat)
 case atStart => exact ⟨0, Nat.zero_le _, rfl, (Ext.refl w).alloc _, Fill.new w n _⟩
 case round =>
  obtain ⟨k, hk, rfl, ext, hF⟩ := hrel
  by_cases hlt : k < n
  ·have hkl : (List.replicate k (0 : Rat)).length = k := List.length_replicate
   have HR := Lib.hid (List.replicate_succ' (n := k) (a := (0 : Rat)))
   go_wp2_with fail
   refine (p_FromIntR 0 (by omega) (by omega)).mono ?_;rintro e V ⟨s7, A7, n7, c7, t7, B7, m7, d7, rfl, h7, hxt⟩;replace hF := hF.ext hxt;replace ext := ext.trans hxt;have hcs := hF.cells (by rw [hkl]; exact hlt);rw [hkl] at hcs;obtain ⟨p0, p1, p2, p3⟩ := hcs;have f0 := hF.frozen (k * 4);have f1 := hF.frozen (k * 4 + 1);have f2 := hF.frozen (k * 4 + 2);have f3 := hF.frozen (k * 4 + 3)
   go_wp2_with fail
   have P := hF.put hkl hlt h7
   go_roundw
   case rel => exact ⟨k + 1, by omega, by go_num, P.2.2.1 _ ext (Nat.le_refl _), by rw [HR.out]; exact P.1⟩
   case measure => simp [intOf]; omega
  ·have hkn : k = n := by omega
   subst hkn
   go_wp2_with fail
   go_ret
   exact ⟨rfl, hF, ext⟩
theorem num_zeroT {q : Rat} (h : q = 0) : q.num.sign = 0 := by rw [h]; rfl
theorem num_nzT {q : Rat} (h : q ≠ 0) : q.num.sign ≠ 0 := fun e => h (Rat.num_eq_zero.1 (Int.sign_eq_zero_iff_zero.1 e))
theorem p_ZeroT (h : Pol w A n c qs L) (hL : L <= 1000) (hn : n <= 100000) : Calls Tryz.prog 35 #[.slice A n c] w fun e w' => e = .returned (.bool (zeroB qs)) /\ Ext w w' := by
 have Hlen := Lib.hid h.len
 go_enter Tryz.func35, Tryz.ntmps35
 go_wp2_with fail
 go_loopw [7] (fun i wr => ∃ k : Nat, k <= n /\ i = .int .i64 (k : Int) /\ Ext w wr /\ zeroB (qs.take k) = true) (fun i _ => n - (intOf i).toNat)
 case atStart => exact ⟨0, by omega, rfl, Ext.refl _, by simp [zeroB]⟩
 case round =>
  obtain ⟨k, hk, rfl, ext, hall⟩ := hrel;have HA := Lib.hid hall;clear hall
  by_cases hlt : k < n
  ·have hj : k < qs.length := by rw [Hlen.out]; exact hlt
   have hI : (k : Int) < (n : Int) := by omega
   obtain ⟨p, off, rfl, hr⟩ := h.at_ (fun e => by rw [e] at hj; exact absurd hj (Nat.not_lt_zero _));obtain ⟨sx, Ax, nx, cx, tx, Bx, mx, dx, e0, e1, e2, e3, hx⟩ := (hr.ext ext).at_ k hj;have e0' : wr.cell? ⟨p, off + k * 4, none⟩ = some (.bool sx) := by rw [Nat.mul_comm]; exact e0
   have e1' : wr.cell? ⟨p, off + k * 4 + 1, none⟩ = some (.slice Ax nx cx) := by rw [Nat.mul_comm]; exact e1
   have e2' : wr.cell? ⟨p, off + k * 4 + 2, none⟩ = some (.bool tx) := by rw [Nat.mul_comm]; exact e2
   have e3' : wr.cell? ⟨p, off + k * 4 + 3, none⟩ = some (.slice Bx mx dx) := by rw [Nat.mul_comm]; exact e3
   have HT := Lib.hid (show zeroB (qs.take (k + 1)) = (zeroB (qs.take k) && decide (qs[k] = 0)) by unfold zeroB; rw [List.take_succ_eq_append_getElem hj, List.all_append]; simp)
   have HM := Lib.hid (fun hf : qs[k] ≠ 0 => show zeroB qs = false by
    unfold zeroB;rw [List.all_eq_false];exact ⟨qs[k], List.getElem_mem hj, by simpa using hf⟩)
   generalize qs[k] = r at hx HT HM
   go_upto_region 4 with (fail)
   obtain ⟨W, hW, extW, bx, hz⟩ := box1 wr 30 #[.bool sx, .slice Ax nx cx, .bool tx, .slice Bx mx dx];rw [<- hW];clear hW hz e0 e1 e2 e3 e0' e1' e2' e3';replace hx := hx.ext extW;replace ext := ext.trans extW;have x0 := bx.cell 0 (.bool sx) rfl;have x1 := bx.cell 1 (.slice Ax nx cx) rfl;have x2 := bx.cell 2 (.bool tx) rfl;have x3 := bx.cell 3 (.slice Bx mx dx) rfl
   by_cases hq : r = 0
   ·have HS := Lib.hid (num_zeroT hq)
    have HQ := Lib.hid hq;clear hq
    go_wp2_with fail
    refine (p_SignR hx (by omega)).mono ?_;rintro e V ⟨rfl, hxt⟩;rw [HS.out]
    go_wp2_with fail
    go_roundw
    case rel => exact ⟨k + 1, by omega, by go_num, ext.trans hxt, by rw [HT.out, HA.out, decide_eq_true HQ.out]; rfl⟩
    case measure => simp [intOf]; omega
   ·obtain ⟨S, hS, dS⟩ : ∃ S, r.num.sign = S /\ (S == 0) = false := ⟨_, rfl, beq_eq_false_iff_ne.2 (num_nzT hq)⟩
    have HS := Lib.hid hS;have HQ := Lib.hid hq;clear hS hq
    go_wp2_with fail
    refine (p_SignR hx (by omega)).mono ?_;rintro e V ⟨rfl, hxt⟩;rw [HS.out]
    go_wp2_with fail
    go_ret
    exact ⟨by rw [HM.out HQ.out]; rfl, ext.trans hxt⟩
  ·have hI : (n : Int) <= (k : Int) := by omega
   go_wp2_with fail
   go_ret
   refine ⟨?_, ext⟩;have ha := HA.out;rw [List.take_of_length_le (by rw [Hlen.out]; omega)] at ha;rw [ha]; rfl
end
def TowL (ts : List (List Rat)) : Prop := ∀ i (h : i < ts.length), ts[i].length = 2 ^ i
section
variable {w w' : World} {ts : List (List Rat)} {us : List (List RawR)} {rs : List RawR} {qs ps : List Rat} {A B : Option Addr} {n c m d b o k L M : Nat}
theorem NR.rawR {q : Rat} {s t : Bool} (h : NR w q L s A n c t B m d) : ∃ xs ys, RI w A n c xs /\ RI w B m d ys /\ (RawR.mk s xs t ys).valid = true /\ (RawR.mk s xs t ys).le L = true := by
 obtain ⟨xs, ys, h1, h2, h3, h4, h5, _⟩ := h.raw;refine ⟨xs, ys, h1, h2, h3, ?_⟩;have := h1.len;have := h2.len;unfold RawR.le;simp only [Bool.and_eq_true, decide_eq_true_eq];omega
theorem Pol.raw (h : Pol w A n c qs L) : ∃ rs : List RawR, RawP w A n c rs /\ rs.all RawR.valid = true /\ rs.all (fun r => r.le L) = true /\ rs.length = qs.length := by
 rcases Nat.eq_zero_or_pos n with h0 | h0
 ·exact ⟨[], ⟨h0.symm, h.cap, h.top, fun e => absurd rfl e⟩, rfl, rfl, by rw [h.len, h0]; rfl⟩
 obtain ⟨b, off, rfl, hr⟩ := h.at_ (fun e => by have := h.len; rw [e] at this; simp at this; omega)
 have key : ∀ i, i < n -> ∃ r : RawR, RawAt w b (off + 4 * i) r /\ r.valid = true /\ r.le L = true := by
  intro i hi;obtain ⟨s, A', n', c', t, B', m', d', e0, e1, e2, e3, hx⟩ := hr.at_ i (by rw [h.len]; exact hi);obtain ⟨xs, ys, h1, h2, h3, h4⟩ := hx.rawR;exact ⟨⟨s, xs, t, ys⟩, ⟨A', n', c', B', m', d', e0, e1, e2, e3, h1, h2⟩, h3, h4⟩
 haveI : Inhabited RawR := ⟨⟨false, [], false, []⟩⟩
 obtain ⟨F, hF⟩ := Deep.choose_lt (n := n) (α := RawR) (p := fun i r => RawAt w b (off + 4 * i) r /\ r.valid = true /\ r.le L = true) key;refine ⟨(List.range n).map F, ⟨by simp, h.cap, h.top, fun _ => ⟨b, off, rfl, fun i hi => ?_⟩⟩, ?_, ?_, by simp [h.len]⟩
 ·have hi2 : i < n := by simpa using hi
  have := (hF i hi2).1
  simpa using this
 ·rw [List.all_eq_true]
  intro r hr';obtain ⟨i, hi, rfl⟩ := List.mem_map.1 hr';exact (hF i (List.mem_range.1 hi)).2.1
 ·rw [List.all_eq_true]
  intro r hr';obtain ⟨i, hi, rfl⟩ := List.mem_map.1 hr';exact (hF i (List.mem_range.1 hi)).2.2
theorem PolT.raw (h : PolT w A n c ts L) : ∃ us : List (List RawR), RawT w A n c us /\ us.length = n /\ (∀ l ∈ us, l.all (fun r => r.le L) = true) /\ ∀ i (h : i < us.length) (h' : i < ts.length), us[i].all RawR.valid = true /\ us[i].length = ts[i].length := by
 rcases Nat.eq_zero_or_pos n with h0 | h0
 ·exact ⟨[], ⟨h0.symm, h.cap, h.top, fun e => absurd rfl e⟩, h0.symm, fun l hl => (by cases hl), fun i hi => (by cases hi)⟩
 obtain ⟨b, off, rfl, hr⟩ := h.at_ (fun e => by have := h.len; rw [e] at this; simp at this; omega)
 have key : ∀ i, i < n -> ∃ r : List RawR, (∃ A' n' c', w.cell? ⟨b, off + i, none⟩ = some (.slice A' n' c') /\ RawP w A' n' c' r) /\ r.all (fun r => r.le L) = true /\ ∀ h' : i < ts.length, r.all RawR.valid = true /\ r.length = ts[i].length := by
  intro i hi;have hi' : i < ts.length := by rw [h.len]; exact hi
  obtain ⟨A', n', c', e0, hx⟩ := hr i hi';obtain ⟨rs, h1, h2, h3, h4⟩ := hx.raw;exact ⟨rs, ⟨A', n', c', e0, h1⟩, h3, fun _ => ⟨h2, h4⟩⟩
 obtain ⟨F, hF⟩ := Deep.choose_lt (n := n) (α := List RawR) (p := fun i r => (∃ A' n' c', w.cell? ⟨b, off + i, none⟩ = some (.slice A' n' c') /\ RawP w A' n' c' r) /\ r.all (fun r => r.le L) = true /\ ∀ h' : i < ts.length, r.all RawR.valid = true /\ r.length = ts[i].length) key;refine ⟨(List.range n).map F, ⟨by simp, h.cap, h.top, fun _ => ⟨b, off, rfl, fun i hi => ?_⟩⟩, by simp, ?_, ?_⟩
 ·have hi2 : i < n := by simpa using hi
  have := (hF i hi2).1
  simpa using this
 ·intro l hl
  obtain ⟨i, hi, rfl⟩ := List.mem_map.1 hl;exact (hF i (List.mem_range.1 hi)).2.1
 ·intro i hi hi'
  have hi2 : i < n := by simpa using hi
  have := (hF i hi2).2.2 hi'
  simpa using this
theorem towerB_of : ∀ (us : List (List RawR)) (k : Nat), (∀ i (h : i < us.length), validL us[i] (2 ^ (k + i)) = true) -> towerB us k = true
 | [], _, _ => rfl
 | l :: us, k, h => by
  rw [towerB];have h0 := h 0 (by simp);simp only [List.getElem_cons_zero, Nat.add_zero] at h0
  rw [h0, towerB_of us (k + 1) (fun i hi => by
   have := h (i + 1) (by simp; omega);simp only [List.getElem_cons_succ] at this;rw [show k + 1 + i = k + (i + 1) by omega];exact this)]
  rfl
theorem validL_of (hv : rs.all RawR.valid = true) (hl : rs.length = k) : validL rs k = true := by unfold validL; rw [hv, decide_eq_true hl]; rfl
theorem PolT.tower (h : PolT w A n c ts L) (ht : TowL ts) (hL : L <= 1000) : ∃ us : List (List RawR), RawT w A n c us /\ us.length = n /\ (∀ l ∈ us, l.all (fun r => r.le 1000) = true) /\ towerB us 0 = true := by
 obtain ⟨us, h1, h2, h3, h4⟩ := h.raw
 have hle : ∀ l : List RawR, l.all (fun r => r.le L) = true -> l.all (fun r => r.le 1000) = true := fun l hl => by
  rw [List.all_eq_true] at hl ⊢;intro r hr;have := hl r hr;unfold RawR.le at this ⊢;simp only [Bool.and_eq_true, decide_eq_true_eq] at this ⊢;omega
 refine ⟨us, h1, h2, fun l hl => hle l (h3 l hl), towerB_of us 0 (fun i hi => ?_)⟩;have hi' : i < ts.length := by rw [h.len, <- h2]; exact hi
 rw [Nat.zero_add];exact validL_of (h4 i hi hi').1 ((h4 i hi hi').2.trans (ht i hi'))
theorem Pol.rawK (h : Pol w A n c qs L) (hL : L <= 1000) : ∃ rs : List RawR, RawP w A n c rs /\ rs.all RawR.valid = true /\ rs.all (fun r => r.le 1000) = true /\ rs.length = qs.length := by
 obtain ⟨rs, h1, h2, h3, h4⟩ := h.raw;refine ⟨rs, h1, h2, ?_, h4⟩;rw [List.all_eq_true] at h3 ⊢;intro r hr;have := h3 r hr;unfold RawR.le at this ⊢;simp only [Bool.and_eq_true, decide_eq_true_eq] at this ⊢;omega
theorem p_formed0 (h : PolT w A n c ts L) (ht : TowL ts) (hL : L <= 1000) (hn : n <= 16) (hT : Tab w) : Calls Tryz.prog 49 #[.slice A n c, .slice none 0 0] w fun e w' => e = .returned (.bool true) /\ Ext w w' := by
 obtain ⟨us, h1, h2, h3, h4⟩ := h.tower ht hL;refine (p_formedT h1 (RawT.none w) hn (by omega) h3 (fun l hl => by cases hl) hT).mono ?_;rintro e w' ⟨rfl, hx⟩;exact ⟨by unfold formedB; rw [h4]; rfl, hx⟩
theorem p_formed1 {g : Nat} {T : TypeId} (h : PolT w A n c ts L) (ht : TowL ts) (hb : Box w g T #[.slice B m d]) (hq : Pol w B m d qs L) (hm : m = 2 ^ n) (hL : L <= 1000) (hn : n <= 16) (hT : Tab w) : Calls Tryz.prog 49 #[.slice A n c, .slice (some ⟨g, 0, none⟩) 1 1] w fun e w' => e = .returned (.bool true) /\ Ext w w' := by
 obtain ⟨us, h1, h2, h3, h4⟩ := h.tower ht hL;obtain ⟨rs, k1, k2, k3, k4⟩ := hq.rawK hL;refine (p_formedT h1 (RawT.one hb k1) hn (by omega) h3 (fun l hl => by rw [List.mem_singleton.1 hl]; exact k3) hT).mono ?_;rintro e w' ⟨rfl, hx⟩;exact ⟨by unfold formedB; rw [h4, h2]; simp [validL_of k2 (show rs.length = 2 ^ n by rw [k4, hq.len, hm])], hx⟩
theorem p_formed2 {g : Nat} {T : TypeId} {D : Option Addr} {l e0 : Nat} (h : PolT w A n c ts L) (ht : TowL ts) (hb : Box w g T #[.slice B m d, .slice D l e0]) (hq : Pol w B m d qs L) (hp : Pol w D l e0 ps L) (hm : m = 2 ^ n) (hl : l = 2 ^ n) (hL : L <= 1000) (hn : n <= 16) (hT : Tab w) : Calls Tryz.prog 49 #[.slice A n c, .slice (some ⟨g, 0, none⟩) 2 2] w fun e w' => e = .returned (.bool true) /\ Ext w w' := by
 obtain ⟨us, h1, h2, h3, h4⟩ := h.tower ht hL;obtain ⟨rs, k1, k2, k3, k4⟩ := hq.rawK hL;obtain ⟨ss, j1, j2, j3, j4⟩ := hp.rawK hL
 refine (p_formedT h1 (RawT.two hb k1 j1) hn (by omega) h3 (fun l hl => by
  rcases List.mem_cons.1 hl with rfl | hl
  ·exact k3
  ·rw [List.mem_singleton.1 hl]; exact j3) hT).mono ?_
 rintro e w' ⟨rfl, hx⟩;exact ⟨by unfold formedB; rw [h4, h2]; simp [validL_of k2 (show rs.length = 2 ^ n by rw [k4, hq.len, hm]), validL_of j2 (show ss.length = 2 ^ n by rw [j4, hp.len, hl])], hx⟩
end
end
section
open Go.RowKit
def RRow (w : World) (g : Nat) (qs : List Rat) (L : Nat) : Prop := ∃ cs : List Value, Box w g 30 cs.toArray /\ CellsOf w L qs cs
section
variable {w w' : World} {qs ps : List Rat} {q : Rat} {A B : Option Addr} {n c m d a b g k L M : Nat} {s t : Bool} {cs : List Value}
theorem CellsOf.split : ∀ (ps : List Rat) {cs : List Value}, CellsOf w L (ps ++ qs) cs -> ∃ ds es, cs = ds ++ es /\ CellsOf w L ps ds /\ CellsOf w L qs es
 | [], cs, h => ⟨[], cs, rfl, .nil, h⟩
 | p :: ps, cs, h => by
  cases h with
  | cons hq hr =>
   obtain ⟨ds, es, rfl, h1, h2⟩ := CellsOf.split ps hr;exact ⟨_, es, rfl, .cons hq h1, h2⟩
theorem RRow.ext (h : RRow w g qs L) (e : Ext w w') : RRow w' g qs L := by
 obtain ⟨cs, h1, h2⟩ := h;exact ⟨cs, h1.ext e, h2.ext e⟩
theorem RRow.lt (h : RRow w g qs L) : g < w.heap.size := by
 obtain ⟨cs, h1, _⟩ := h;exact h1.lt
theorem RRow.frozen (h : RRow w g qs L) (i : Nat) : w.frozen? ⟨g, i, none⟩ = false := by
 obtain ⟨cs, h1, _⟩ := h;exact h1.frozen i
theorem RRow.rats (h : RRow w g qs L) : RatsAt w g 0 qs L := by
 obtain ⟨cs, h1, h2⟩ := h;exact RatsAt.of_box h1 h2
theorem RRow.pol (h : RRow w g qs L) (hn : qs.length = n) (hm : n <= maxLen) : Pol w (some ⟨g, 0, none⟩) n n qs L := ⟨hn, Nat.le_refl _, hm, fun _ => ⟨g, 0, rfl, h.rats⟩⟩
theorem Fill.rrow (h : Fill w g n qs L) (hn : qs.length = n) : RRow w g qs L := by
 obtain ⟨⟨ds, h1, h2⟩, _⟩ := h;rw [hn, Nat.sub_self, zeroC, List.append_nil] at h1;exact ⟨ds, h1, h2⟩
theorem RRow.get (h : RRow w g qs L) (hk : k < qs.length) : ∃ s A n c t B m d, w.cell? ⟨g, k * 4, none⟩ = some (.bool s) /\ w.cell? ⟨g, k * 4 + 1, none⟩ = some (.slice A n c) /\ w.cell? ⟨g, k * 4 + 2, none⟩ = some (.bool t) /\ w.cell? ⟨g, k * 4 + 3, none⟩ = some (.slice B m d) /\ NR w qs[k] L s A n c t B m d := by
 obtain ⟨cs, h1, h2⟩ := h;obtain ⟨s, A, n, c, t, B, m, d, e0, e1, e2, e3, e4⟩ := h2.get k hk;rw [Nat.mul_comm 4 k] at e0 e1 e2 e3;exact ⟨s, A, n, c, t, B, m, d, h1.cell _ _ (by simpa using e0), h1.cell _ _ (by simpa using e1), h1.cell _ _ (by simpa using e2), h1.cell _ _ (by simpa using e3), e4⟩
theorem RRow.put (h : RRow w g qs L) (hk : k < qs.length) (hq : NR w q L s A a c t B b d) :
  RRow ((((w.setCell ⟨g, k * 4, none⟩ (.bool s)).setCell ⟨g, k * 4 + 1, none⟩ (.slice A a c)).setCell ⟨g, k * 4 + 2, none⟩ (.bool t)).setCell ⟨g, k * 4 + 3, none⟩ (.slice B b d)) g (qs.set k q) L /\
  (∀ z L s' A' n' c', NI w z L s' A' n' c' -> NI ((((w.setCell ⟨g, k * 4, none⟩ (.bool s)).setCell ⟨g, k * 4 + 1, none⟩ (.slice A a c)).setCell ⟨g, k * 4 + 2, none⟩ (.bool t)).setCell ⟨g, k * 4 + 3, none⟩ (.slice B b d)) z L s' A' n' c') /\
  (∀ W, Ext W w -> W.heap.size <= g -> Ext W ((((w.setCell ⟨g, k * 4, none⟩ (.bool s)).setCell ⟨g, k * 4 + 1, none⟩ (.slice A a c)).setCell ⟨g, k * 4 + 2, none⟩ (.bool t)).setCell ⟨g, k * 4 + 3, none⟩ (.slice B b d))) := by
 obtain ⟨cs, h1, h2⟩ := h;have e1 : qs = qs.take k ++ qs[k] :: qs.drop (k + 1) := by rw [<- List.drop_eq_getElem_cons hk, List.take_append_drop]
 rw [e1] at h2;obtain ⟨ds, es, rfl, h3, h4⟩ := CellsOf.split _ h2;have hH : Half w g (qs.take k) (qs[k] :: qs.drop (k + 1)) L L := ⟨ds, es, h1, h3, h4⟩;have hlk : (qs.take k).length = k := by rw [List.length_take]; omega
 obtain ⟨p1, p2, p3⟩ := hH.put (k := k) hlk hq;refine ⟨?_, p2, p3⟩;obtain ⟨ds', es', b1, b2, b3⟩ := p1.out;refine ⟨ds' ++ es', b1, ?_⟩;rw [List.set_eq_take_append_cons_drop, if_pos hk];have := b2.append b3
 rwa [List.append_assoc] at this
end
end
section
open Go.RowKit
attribute [local go_sem ↓] Go.wp_at_zero Go.wp_at_succ
section
variable {w w' : World} {q x : Rat} {L M : Nat} {s t : Bool} {A B : Option Addr} {n c m d : Nat} {sx tx : Bool} {Ax Bx : Option Addr} {nx cx mx dx : Nat} {qs ps : List Rat} {rs : List RawR} {ts us : List (List RawR)}
theorem p_RootT {T : List (List Rat)} (h : PolT w A n c T L) (ht : TowL T) (i : Nat) (hi : i < n) (hL : L <= 1000) (hn : n <= 9) (hT : Tab w) : Calls Tryz.prog 24 #[.slice A n c, .int .i64 (i : Int)] w (RetPol ((List.replicate (2 ^ n) 0).set (2 ^ i) 1) 2 w) := by
 obtain ⟨P, hP⟩ : ∃ P, P = 2 ^ n := ⟨_, rfl⟩;obtain ⟨R, hR⟩ : ∃ R, R = 2 ^ i := ⟨_, rfl⟩;have hP1 : P <= 512 := by rw [hP]; exact Nat.le_trans (Nat.pow_le_pow_right (by omega) hn) (by decide)
 have hRP : R < P := by rw [hR, hP]; exact Nat.pow_lt_pow_right (by omega) hi
 have HP := Lib.hid hP;have HR := Lib.hid hR;have g1 : decide ((i : Int) < 0) = false := decide_eq_false (by omega);have g2 : decide ((n : Int) <= (i : Int)) = false := decide_eq_false (by omega);have g3 : decide (n <= i) = false := decide_eq_false (by omega);have hI0 : (R : Int) < (P : Int) := by omega
 have hW2 : wrap64 ((2 : Int) ^ n) = (P : Int) := by
  rw [hP];have e1 : ((2 : Int) ^ n) = ((2 ^ n : Nat) : Int) := by push_cast; rfl
  rw [e1];unfold wrap64;omega
 have hW3 : wrap64 ((2 : Int) ^ i) = (R : Int) := by
  rw [hR];have e1 : ((2 : Int) ^ i) = ((2 ^ i : Nat) : Int) := by push_cast; rfl
  rw [e1];unfold wrap64;omega
 have hW4 : IntKind.i64.wrap ((2 : Int) ^ i) = (R : Int) := by rw [<- hW3, IntKind.wrap_i64]; unfold wrap64; omega
 clear hP hR
 go_enter Tryz.func24, Tryz.ntmps24
 go_wp2_with fail
 refine (p_formed0 h ht hL (by omega) hT).mono ?_;rintro e V ⟨rfl, hxt⟩
 go_wp2_with fail
 rw [hW2];refine (p_zerosT P (by omega)).mono ?_;rintro e V3 ⟨rfl, hF, hxv⟩;have hR : RRow V3 V.heap.size (List.replicate P 0) 2 := hF.rrow (by simp);have hlr : R < (List.replicate P (0 : Rat)).length := by simp; omega
 go_upto_region 4 with (fail)
 refine wpL.st 5 (fun hQ ES => ?_);refine wpL.t 0 23 ?v_0 hQ ?y_0 ES ?_
 case y_0 => intro w' hSw;go_simp;try rfl
 try simp only [zP]
 refine wpL.t 1 24 ?v_1 hQ ?y_1 ES ?_
 case y_1 => intro w' hSw;go_simp;try rfl
 try simp only [zP]
 refine wpL.t 2 25 ?v_2 hQ ?y_2 ES ?_
 case y_2 => intro w' hSw;go_simp;try rfl
 try simp only [zP]
 refine wpL.cl (i := 3) rfl (fun K hK => ?_);go_simp
 (go_at_call 47; refine (p_FromIntR 1 (by omega) (by omega)).mono ?_; rintro e wa ⟨s7, A7, n7, c7, t7, B7, m7, d7, rfl, h7, hx0⟩; have E0_4 := Ext.trans ES hx0)
 refine hK.out _ _ E0_4 ?_;clear hK K
 try simp only [zP]
 refine wpL.t 4 27 ?v_3 hQ ?y_3 E0_4 ?_
 case y_3 => intro w' hSw;go_simp;try rfl
 try simp only [zP]
 replace hR := hR.ext E0_4;obtain ⟨s8, A8, n8, c8, t8, B8, m8, d8, p0, p1, p2, p3, _⟩ := hR.get hlr;have f0 := hR.frozen (R * 4);have f1 := hR.frozen (R * 4 + 1);have f2 := hR.frozen (R * 4 + 2);have f3 := hR.frozen (R * 4 + 3);refine wpL.tl (i := 5) rfl (fun K hK => ?_);go_simp;refine hK.out _ _ ?_;clear hK K
 try simp only [zP]
 refine wpL.done (by kernel_rfl) ?_ _;clear hQ
 go_wp2_with fail
 have hPut := hR.put hlr h7
 go_ret
 refine ⟨_, P, P, rfl, ?_, hPut.2.2 _ ((hxt.trans hxv).trans E0_4) hxt.size⟩;rw [<- HP.out, <- HR.out];exact hPut.1.pol (by simp) (by unfold maxLen; omega)
end
section
variable {w w' : World} {q x : Rat} {L M : Nat} {s t : Bool} {A B : Option Addr} {n c m d : Nat} {sx tx : Bool} {Ax Bx : Option Addr} {nx cx mx dx : Nat} {qs ps : List Rat} {rs : List RawR} {ts us : List (List RawR)}
variable {sy ty : Bool} {Ay By : Option Addr} {ny cy my dy : Nat}
set_option maxRecDepth 100000 in
theorem p_each6_clone (h : Pol w A n c qs L) (hL : L <= 900) (hn : n <= 1000) : Calls Tryz.prog 61 #[.slice A n c, (.func (.func 52) #[] #[])] w (fun e w' => e = .returned (.slice (some ⟨w.heap.size, 0, none⟩) n n) /\ RRow w' w.heap.size (qs.map (fun x : Rat => x)) (L) /\ Ext w w') := by
 have hmk := mk_rats n (by omega);have Hlen := Lib.hid h.len
 go_enter Tryz.func61, Tryz.ntmps61
 go_wp2_with fail
 go_loopw [12] (fun i wr => ∃ k : Nat, k <= n /\ i = .int .i64 (k : Int) /\ Ext w wr /\ Fill wr w.heap.size n ((qs.take k).map (fun x : Rat => x)) (L)) (fun i _ => n - (intOf i).toNat)
 case atStart => exact ⟨0, Nat.zero_le _, rfl, (Ext.refl w).alloc _, Fill.new w n _⟩
 case round =>
  obtain ⟨k, hk, rfl, ext, hF⟩ := hrel
  by_cases hlt : k < n
  ·have hj : k < qs.length := by rw [Hlen.out]; exact hlt
   obtain ⟨b, off, rfl, hr⟩ := h.at_ (fun e => by rw [e] at hj; exact absurd hj (Nat.not_lt_zero _));obtain ⟨sx, Ax, nx, cx, tx, Bx, mx, dx, e0, e1, e2, e3, hx⟩ := (hr.ext ext).at_ k hj;have e0' : wr.cell? ⟨b, off + k * 4, none⟩ = some (.bool sx) := by rw [Nat.mul_comm]; exact e0
   have e1' : wr.cell? ⟨b, off + k * 4 + 1, none⟩ = some (.slice Ax nx cx) := by rw [Nat.mul_comm]; exact e1
   have e2' : wr.cell? ⟨b, off + k * 4 + 2, none⟩ = some (.bool tx) := by rw [Nat.mul_comm]; exact e2
   have e3' : wr.cell? ⟨b, off + k * 4 + 3, none⟩ = some (.slice Bx mx dx) := by rw [Nat.mul_comm]; exact e3
   have HT := Lib.hid (show (qs.take (k + 1)).map (fun x : Rat => x) = (qs.take k).map (fun x : Rat => x) ++ [(fun x : Rat => x) qs[k]] by rw [List.take_succ_eq_append_getElem hj, List.map_append]; rfl);have hkl : ((qs.take k).map (fun x : Rat => x)).length = k := by rw [List.length_map, List.length_take, Hlen.out]; omega
   go_wp2_with fail
   refine (p_cloneT hx (by omega)).mono ?_;rintro e V ⟨s7, A7, n7, c7, t7, B7, m7, d7, rfl, h7, hxt⟩;replace hF := hF.ext hxt;replace ext := ext.trans hxt;have hcs := hF.cells (by rw [hkl]; exact hlt);rw [hkl] at hcs;obtain ⟨p0, p1, p2, p3⟩ := hcs;have f0 := hF.frozen (k * 4);have f1 := hF.frozen (k * 4 + 1);have f2 := hF.frozen (k * 4 + 2);have f3 := hF.frozen (k * 4 + 3)
   go_wp2_with fail
   have P := hF.put hkl hlt h7
   go_roundw
   case rel => exact ⟨k + 1, by omega, by go_num, P.2.2.1 _ ext (Nat.le_refl _), by rw [HT.out]; exact P.1⟩
   case measure => simp [intOf]; omega
  ·have hkn : k = n := by omega
   subst hkn;have hml : ((qs.take k).map (fun x : Rat => x)).length = k := by rw [List.length_map, List.length_take, Hlen.out]; omega
   have hp := hF.rrow hml;rw [List.take_of_length_le (Nat.le_of_eq Hlen.out)] at hp
   go_wp2_with fail
   go_ret
   exact ⟨rfl, hp, ext⟩
end
end
section
def El (K : Type) : Nat -> Type
 | 0 => K
 | h + 1 => El K h × El K h
section
variable {K : Type} [Lean.Grind.CommRing K]
def El.zero : (h : Nat) -> El K h
 | 0 => (0 : K)
 | h + 1 => (El.zero h, El.zero h)
def El.one : (h : Nat) -> El K h
 | 0 => (1 : K)
 | h + 1 => (El.one h, El.zero h)
def El.add : (h : Nat) -> El K h -> El K h -> El K h
 | 0 => fun (a b : K) => a + b
 | h + 1 => fun a b => (El.add h a.1 b.1, El.add h a.2 b.2)
def El.neg : (h : Nat) -> El K h -> El K h
 | 0 => fun (a : K) => -a
 | h + 1 => fun a => (El.neg h a.1, El.neg h a.2)
def El.mul (R : (h : Nat) -> El K h) : (h : Nat) -> El K h -> El K h -> El K h
 | 0 => fun (a b : K) => a * b
 | h + 1 => fun a b => (El.add h (El.mul R h a.1 b.1) (El.mul R h (El.mul R h a.2 b.2) (R h)), El.add h (El.mul R h a.1 b.2) (El.mul R h a.2 b.1))
def El.smul : (h : Nat) -> K -> El K h -> El K h
 | 0 => fun (k a : K) => k * a
 | h + 1 => fun k a => (El.smul h k a.1, El.smul h k a.2)
omit [Lean.Grind.CommRing K] in
theorem El.ext {h : Nat} {a b : El K (h + 1)} (h1 : a.1 = b.1) (h2 : a.2 = b.2) : a = b := Prod.ext h1 h2
theorem El.add_assoc : (h : Nat) -> (a b c : El K h) -> El.add h (El.add h a b) c = El.add h a (El.add h b c)
 | 0, a, b, c => Lean.Grind.Semiring.add_assoc (α := K) a b c
 | h + 1, a, b, c => El.ext (El.add_assoc h a.1 b.1 c.1) (El.add_assoc h a.2 b.2 c.2)
theorem El.add_comm : (h : Nat) -> (a b : El K h) -> El.add h a b = El.add h b a
 | 0, a, b => Lean.Grind.AddCommMonoid.add_comm (M := K) a b
 | h + 1, a, b => El.ext (El.add_comm h a.1 b.1) (El.add_comm h a.2 b.2)
theorem El.add_zero : (h : Nat) -> (a : El K h) -> El.add h a (El.zero h) = a
 | 0, a => Lean.Grind.AddCommMonoid.add_zero (M := K) a
 | h + 1, a => El.ext (El.add_zero h a.1) (El.add_zero h a.2)
theorem El.neg_add : (h : Nat) -> (a : El K h) -> El.add h (El.neg h a) a = El.zero h
 | 0, a => Lean.Grind.AddCommGroup.neg_add_cancel (M := K) a
 | h + 1, a => El.ext (El.neg_add h a.1) (El.neg_add h a.2)
theorem El.add4 (h : Nat) (a b c d : El K h) : El.add h (El.add h a b) (El.add h c d) = El.add h (El.add h a c) (El.add h b d) := by
 rw [El.add_assoc, El.add_assoc, <- El.add_assoc h b, El.add_comm h b c, El.add_assoc h c]
variable (R : (h : Nat) -> El K h)
theorem El.mul_comm : (h : Nat) -> (a b : El K h) -> El.mul R h a b = El.mul R h b a
 | 0, a, b => Lean.Grind.CommSemiring.mul_comm (α := K) a b
 | h + 1, a, b => by
  refine El.ext ?_ ?_
  ·show El.add h (El.mul R h a.1 b.1) (El.mul R h (El.mul R h a.2 b.2) (R h)) = El.add h (El.mul R h b.1 a.1) (El.mul R h (El.mul R h b.2 a.2) (R h))
   rw [El.mul_comm h a.1 b.1, El.mul_comm h a.2 b.2]
  ·show El.add h (El.mul R h a.1 b.2) (El.mul R h a.2 b.1) = El.add h (El.mul R h b.1 a.2) (El.mul R h b.2 a.1)
   rw [El.mul_comm h a.1 b.2, El.mul_comm h a.2 b.1, El.add_comm]
theorem El.mul_add : (h : Nat) -> (a b c : El K h) -> El.mul R h a (El.add h b c) = El.add h (El.mul R h a b) (El.mul R h a c)
 | 0, a, b, c => Lean.Grind.Semiring.left_distrib (α := K) a b c
 | h + 1, a, b, c => by
  have hr : ∀ x y z : El K h, El.mul R h (El.add h x y) z = El.add h (El.mul R h x z) (El.mul R h y z) := fun x y z => by
   rw [El.mul_comm R h, El.mul_add h, El.mul_comm R h z x, El.mul_comm R h z y]
  refine El.ext ?_ ?_
  ·show El.add h (El.mul R h a.1 (El.add h b.1 c.1)) (El.mul R h (El.mul R h a.2 (El.add h b.2 c.2)) (R h)) = El.add h (El.add h (El.mul R h a.1 b.1) (El.mul R h (El.mul R h a.2 b.2) (R h))) (El.add h (El.mul R h a.1 c.1) (El.mul R h (El.mul R h a.2 c.2) (R h)))
   rw [El.mul_add h, El.mul_add h, hr, El.add4]
  ·show El.add h (El.mul R h a.1 (El.add h b.2 c.2)) (El.mul R h a.2 (El.add h b.1 c.1)) = El.add h (El.add h (El.mul R h a.1 b.2) (El.mul R h a.2 b.1)) (El.add h (El.mul R h a.1 c.2) (El.mul R h a.2 c.1))
   rw [El.mul_add h, El.mul_add h, El.add4]
theorem El.add_mul (h : Nat) (a b c : El K h) : El.mul R h (El.add h a b) c = El.add h (El.mul R h a c) (El.mul R h b c) := by
 rw [El.mul_comm, El.mul_add, El.mul_comm R h c a, El.mul_comm R h c b]
theorem El.add_abcd (h : Nat) (a b c d : El K h) : El.add h (El.add h a b) (El.add h c d) = El.add h (El.add h a d) (El.add h c b) := by
 rw [El.add_comm h c d, El.add4, El.add_comm h b c]
theorem El.mul_assoc : (h : Nat) -> (a b c : El K h) -> El.mul R h (El.mul R h a b) c = El.mul R h a (El.mul R h b c)
 | 0, a, b, c => Lean.Grind.Semiring.mul_assoc (α := K) a b c
 | h + 1, a, b, c => by
  have hc : ∀ x y z : El K h, El.mul R h (El.mul R h x y) z = El.mul R h (El.mul R h x z) y := fun x y z => by
   rw [El.mul_assoc h, El.mul_comm R h y z, <- El.mul_assoc h]
  refine El.ext ?_ ?_
  ·show El.add h (El.mul R h (El.add h (El.mul R h a.1 b.1) (El.mul R h (El.mul R h a.2 b.2) (R h))) c.1) (El.mul R h (El.mul R h (El.add h (El.mul R h a.1 b.2) (El.mul R h a.2 b.1)) c.2) (R h)) =
    El.add h (El.mul R h a.1 (El.add h (El.mul R h b.1 c.1) (El.mul R h (El.mul R h b.2 c.2) (R h)))) (El.mul R h (El.mul R h a.2 (El.add h (El.mul R h b.1 c.2) (El.mul R h b.2 c.1))) (R h))
   simp only [El.mul_add R h, El.add_mul R h, <- El.mul_assoc h];rw [hc _ (R h) c.1, El.add_abcd, El.add4, El.add_abcd]
  ·show El.add h (El.mul R h (El.add h (El.mul R h a.1 b.1) (El.mul R h (El.mul R h a.2 b.2) (R h))) c.2) (El.mul R h (El.add h (El.mul R h a.1 b.2) (El.mul R h a.2 b.1)) c.1) =
    El.add h (El.mul R h a.1 (El.add h (El.mul R h b.1 c.2) (El.mul R h b.2 c.1))) (El.mul R h a.2 (El.add h (El.mul R h b.1 c.1) (El.mul R h (El.mul R h b.2 c.2) (R h))))
   simp only [El.mul_add R h, El.add_mul R h, <- El.mul_assoc h];rw [hc _ (R h) c.2, El.add4, El.add_comm h (El.mul R h (El.mul R h a.2 b.1) c.1)]
theorem El.mul_zero : (h : Nat) -> (a : El K h) -> El.mul R h a (El.zero h) = El.zero h
 | 0, a => Lean.Grind.Semiring.mul_zero (α := K) a
 | h + 1, a => by
  refine El.ext ?_ ?_
  ·show El.add h (El.mul R h a.1 (El.zero h)) (El.mul R h (El.mul R h a.2 (El.zero h)) (R h)) = El.zero h
   rw [El.mul_zero h, El.mul_zero h, El.mul_comm, El.mul_zero h, El.add_zero]
  ·show El.add h (El.mul R h a.1 (El.zero h)) (El.mul R h a.2 (El.zero h)) = El.zero h
   rw [El.mul_zero h, El.mul_zero h, El.add_zero]
theorem El.mul_one : (h : Nat) -> (a : El K h) -> El.mul R h a (El.one h) = a
 | 0, a => Lean.Grind.Semiring.mul_one (α := K) a
 | h + 1, a => by
  refine El.ext ?_ ?_
  ·show El.add h (El.mul R h a.1 (El.one h)) (El.mul R h (El.mul R h a.2 (El.zero h)) (R h)) = a.1
   rw [El.mul_one h, El.mul_zero, El.mul_comm, El.mul_zero, El.add_zero]
  ·show El.add h (El.mul R h a.1 (El.zero h)) (El.mul R h a.2 (El.one h)) = a.2
   rw [El.mul_one h, El.mul_zero, El.add_comm, El.add_zero]
end
section
variable {K : Type} [Lean.Grind.CommRing K]
def toE : (h : Nat) -> List K -> El K h
 | 0, l => l.headD 0
 | h + 1, l => (toE h (l.take (2 ^ h)), toE h (l.drop (2 ^ h)))
def addL (a b : List K) : List K := List.zipWith (· + ·) a b
def negL (a : List K) : List K := a.map (- ·)
def mulL (R : Nat -> List K) : Nat -> List K -> List K -> List K
 | 0, a, b => [a.headD 0 * b.headD 0]
 | h + 1, a, b =>
  addL (mulL R h (a.take (2 ^ h)) (b.take (2 ^ h))) (mulL R h (mulL R h (a.drop (2 ^ h)) (b.drop (2 ^ h))) (R h)) ++
   addL (mulL R h (a.take (2 ^ h)) (b.drop (2 ^ h))) (mulL R h (a.drop (2 ^ h)) (b.take (2 ^ h)))
theorem two_pow_s (h : Nat) : 2 ^ (h + 1) = 2 ^ h + 2 ^ h := by rw [Nat.pow_succ, Nat.mul_two]
theorem addL_len {a b : List K} {n : Nat} (ha : a.length = n) (hb : b.length = n) : (addL a b).length = n := by
 unfold addL; rw [List.length_zipWith, ha, hb, Nat.min_self]
theorem negL_len (a : List K) : (negL a).length = a.length := List.length_map _
omit [Lean.Grind.CommRing K] in
theorem take_len {a : List K} {h : Nat} (ha : a.length = 2 ^ (h + 1)) : (a.take (2 ^ h)).length = 2 ^ h := by
 rw [List.length_take, ha, two_pow_s]; omega
omit [Lean.Grind.CommRing K] in
theorem drop_len {a : List K} {h : Nat} (ha : a.length = 2 ^ (h + 1)) : (a.drop (2 ^ h)).length = 2 ^ h := by
 rw [List.length_drop, ha, two_pow_s]; omega
theorem mulL_len {R : Nat -> List K} : {h : Nat} -> {a b : List K} -> (mulL R h a b).length = 2 ^ h
 | 0, _, _ => rfl
 | h + 1, _, _ => by
  rw [mulL, List.length_append, addL_len mulL_len mulL_len, addL_len mulL_len mulL_len, two_pow_s]
theorem addL_take (a b : List K) (n : Nat) : (addL a b).take n = addL (a.take n) (b.take n) := by unfold addL; rw [List.take_zipWith]
theorem addL_drop (a b : List K) (n : Nat) : (addL a b).drop n = addL (a.drop n) (b.drop n) := by unfold addL; rw [List.drop_zipWith]
theorem toE_add : {h : Nat} -> {a b : List K} -> a.length = 2 ^ h -> b.length = 2 ^ h -> toE h (addL a b) = El.add h (toE h a) (toE h b)
 | 0, a, b, ha, hb => by
  match a, b, ha, hb with
  | [x], [y], _, _ => rfl
 | h + 1, a, b, ha, hb => by
  simp only [toE, El.add];rw [addL_take, addL_drop, toE_add (take_len ha) (take_len hb), toE_add (drop_len ha) (drop_len hb)]
theorem toE_neg : {h : Nat} -> {a : List K} -> a.length = 2 ^ h -> toE h (negL a) = El.neg h (toE h a)
 | 0, a, ha => by
  match a, ha with
  | [x], _ => rfl
 | h + 1, a, ha => by
  have e1 : (negL a).take (2 ^ h) = negL (a.take (2 ^ h)) := by unfold negL; rw [List.map_take]
  have e2 : (negL a).drop (2 ^ h) = negL (a.drop (2 ^ h)) := by unfold negL; rw [List.map_drop]
  simp only [toE, El.neg];rw [e1, e2, toE_neg (take_len ha), toE_neg (drop_len ha)]
theorem toE_app {h : Nat} {a b : List K} (ha : a.length = 2 ^ h) (_hb : b.length = 2 ^ h) : toE (h + 1) (a ++ b) = (toE h a, toE h b) := by
 simp only [toE];rw [<- ha, List.take_left, List.drop_left]
theorem toE_mul {R : Nat -> List K} (hR : ∀ i, (R i).length = 2 ^ i) : {h : Nat} -> {a b : List K} -> a.length = 2 ^ h -> b.length = 2 ^ h -> toE h (mulL R h a b) = El.mul (fun i => toE i (R i)) h (toE h a) (toE h b)
 | 0, a, b, ha, hb => by
  match a, b, ha, hb with
  | [x], [y], _, _ => rfl
 | h + 1, a, b, ha, hb => by
  rw [mulL, toE_app (addL_len mulL_len mulL_len) (addL_len mulL_len mulL_len), toE_add mulL_len mulL_len, toE_add mulL_len mulL_len];rw [toE_mul hR (take_len ha) (take_len hb), toE_mul hR (mulL_len) (hR h), toE_mul hR (drop_len ha) (drop_len hb), toE_mul hR (take_len ha) (drop_len hb), toE_mul hR (drop_len ha) (take_len hb)]
  rfl
theorem toE_inj : {h : Nat} -> {a b : List K} -> a.length = 2 ^ h -> b.length = 2 ^ h -> toE h a = toE h b -> a = b
 | 0, a, b, ha, hb, e => by
  match a, b, ha, hb with
  | [x], [y], _, _ => exact congrArg (fun z : K => [z]) e
 | h + 1, a, b, ha, hb, e => by
  have e1 := congrArg Prod.fst e;have e2 := congrArg Prod.snd e;rw [<- List.take_append_drop (2 ^ h) a, <- List.take_append_drop (2 ^ h) b, toE_inj (take_len ha) (take_len hb) e1, toE_inj (drop_len ha) (drop_len hb) e2]
end
section
variable {K : Type} [Lean.Grind.CommRing K]
theorem El.smul_add : (h : Nat) -> (k : K) -> (a b : El K h) -> El.smul h k (El.add h a b) = El.add h (El.smul h k a) (El.smul h k b)
 | 0, k, a, b => Lean.Grind.Semiring.left_distrib (α := K) k a b
 | h + 1, k, a, b => by simp only [El.smul, El.add, El.smul_add h]; exact El.ext rfl rfl
theorem El.smul_smul : (h : Nat) -> (k l : K) -> (a : El K h) -> El.smul h k (El.smul h l a) = El.smul h (k * l) a
 | 0, k, l, a => (Lean.Grind.Semiring.mul_assoc (α := K) k l a).symm
 | h + 1, k, l, a => by simp only [El.smul, El.smul_smul h]; exact El.ext rfl rfl
theorem El.smul_one : (h : Nat) -> (a : El K h) -> El.smul h 1 a = a
 | 0, a => Lean.Grind.Semiring.one_mul (α := K) a
 | h + 1, a => by simp only [El.smul, El.smul_one h]; exact El.ext rfl rfl
theorem El.smul_zero : (h : Nat) -> (k : K) -> El.smul h k (El.zero h) = El.zero h
 | 0, k => Lean.Grind.Semiring.mul_zero (α := K) k
 | h + 1, k => by simp only [El.smul, El.zero, El.smul_zero h]; exact El.ext rfl rfl
variable (R : (h : Nat) -> El K h)
theorem El.smul_mul : (h : Nat) -> (k : K) -> (a b : El K h) -> El.mul R h (El.smul h k a) b = El.smul h k (El.mul R h a b)
 | 0, k, a, b => Lean.Grind.Semiring.mul_assoc (α := K) k a b
 | h + 1, k, a, b => by simp only [El.mul, El.smul, El.smul_mul h, El.smul_add]; exact El.ext rfl rfl
theorem El.mul_smul (h : Nat) (k : K) (a b : El K h) : El.mul R h a (El.smul h k b) = El.smul h k (El.mul R h a b) := by
 rw [El.mul_comm, El.smul_mul, El.mul_comm]
def El.psi (D : Nat -> K) : (h : Nat) -> El K h -> El K h
 | 0 => fun a => a
 | h + 1 => fun a => (El.psi D h a.1, El.smul h (D h) (El.psi D h a.2))
theorem El.psi_add (D : Nat -> K) : (h : Nat) -> (a b : El K h) -> El.psi D h (El.add h a b) = El.add h (El.psi D h a) (El.psi D h b)
 | 0, _, _ => rfl
 | h + 1, a, b => by simp only [El.psi, El.add, El.psi_add D h, El.smul_add]; exact El.ext rfl rfl
theorem El.psi_mul (D : Nat -> K) {T : (h : Nat) -> El K h} : (h : Nat) -> (∀ i, i < h -> El.psi D i (R i) = El.smul i (D i * D i) (T i)) -> (a b : El K h) -> El.psi D h (El.mul R h a b) = El.mul T h (El.psi D h a) (El.psi D h b)
 | 0, _, _, _ => rfl
 | h + 1, hR, a, b => by
  have ih := El.psi_mul D (T := T) h (fun i hi => hR i (by omega));simp only [El.psi, El.mul, El.psi_add, ih, hR h (by omega), El.smul_add];refine Prod.ext ?_ ?_
  ·simp only [El.smul_mul, El.mul_smul, El.smul_smul]
  ·simp only [El.smul_mul, El.mul_smul]
def facL (D : Nat -> K) : Nat -> List K
 | 0 => [1]
 | h + 1 => facL D h ++ (facL D h).map (· * D h)
def timesL (a b : List K) : List K := List.zipWith (· * ·) a b
theorem facL_len (D : Nat -> K) : ∀ h, (facL D h).length = 2 ^ h
 | 0 => rfl
 | h + 1 => by rw [facL, List.length_append, List.length_map, facL_len D h, two_pow_s]
theorem facL_take (D : Nat -> K) (h : Nat) : (facL D (h + 1)).take (2 ^ h) = facL D h := by
 rw [facL, <- facL_len D h, List.take_left]
theorem facL_drop (D : Nat -> K) (h : Nat) : (facL D (h + 1)).drop (2 ^ h) = (facL D h).map (· * D h) := by
 rw [facL, <- facL_len D h, List.drop_left]
theorem timesL_len {a b : List K} {n : Nat} (ha : a.length = n) (hb : b.length = n) : (timesL a b).length = n := by
 unfold timesL; rw [List.length_zipWith, ha, hb, Nat.min_self]
theorem toE_map_mul : {h : Nat} -> {a : List K} -> a.length = 2 ^ h -> (k : K) -> toE h (a.map (k * ·)) = El.smul h k (toE h a)
 | 0, a, ha, k => by
  match a, ha with
  | [x], _ => rfl
 | h + 1, a, ha, k => by
  simp only [toE, El.smul];rw [<- List.map_take, <- List.map_drop, toE_map_mul (take_len ha), toE_map_mul (drop_len ha)]
theorem toE_fac (D : Nat -> K) : {h : Nat} -> {a : List K} -> a.length = 2 ^ h -> toE h (timesL a (facL D h)) = El.psi D h (toE h a)
 | 0, a, ha => by
  match a, ha with
  | [x], _ => exact Lean.Grind.Semiring.mul_one (α := K) x
 | h + 1, a, ha => by
  have e1 : (timesL a (facL D (h + 1))).take (2 ^ h) = timesL (a.take (2 ^ h)) (facL D h) := by
   unfold timesL; rw [List.take_zipWith, facL_take]
  have e2 : (timesL a (facL D (h + 1))).drop (2 ^ h) = (timesL (a.drop (2 ^ h)) (facL D h)).map (D h * ·) := by
   unfold timesL;rw [List.drop_zipWith, facL_drop, List.zipWith_map_right, List.map_zipWith]
   congr 1
   funext x y
   rw [<- Lean.Grind.Semiring.mul_assoc, Lean.Grind.CommSemiring.mul_comm]
  simp only [toE, El.psi];rw [e1, e2, toE_map_mul (timesL_len (drop_len ha) (facL_len D h)), toE_fac D (take_len ha), toE_fac D (drop_len ha)]
end
end
section
open Go.RowKit
attribute [local go_sem ↓] Go.wp_at_zero Go.wp_at_succ
section
variable {w w' : World} {q x : Rat} {L M : Nat} {s t : Bool} {A B : Option Addr} {n c m d b o N : Nat} {sx tx : Bool} {Ax Bx : Option Addr} {nx cx mx dx : Nat} {qs ps : List Rat} {rs : List RawR} {ts us : List (List RawR)}
theorem NR.leT {q : Rat} {s t : Bool} (h : NR w q L s A n c t B m d) (hl : L <= M) : NR w q M s A n c t B m d := h.le hl
theorem RatsAt.le (h : RatsAt w b o qs L) (hl : L <= M) : RatsAt w b o qs M := ⟨fun i hi => by
 obtain ⟨s, A, n, c, t, B, m, d, h0, h1, h2, h3, h4⟩ := h.at_ i hi;exact ⟨s, A, n, c, t, B, m, d, h0, h1, h2, h3, h4.le hl⟩⟩
theorem Pol.le (h : Pol w A n c qs L) (hl : L <= M) : Pol w A n c qs M := ⟨h.len, h.cap, h.top, fun hq => by
 obtain ⟨b, off, h1, h2⟩ := h.at_ hq;exact ⟨b, off, h1, h2.le hl⟩⟩
theorem PolT.le {T : List (List Rat)} (h : PolT w A n c T L) (hl : L <= M) : PolT w A n c T M := ⟨h.len, h.cap, h.top, fun hq => by
 obtain ⟨b, off, h1, h2⟩ := h.at_ hq;refine ⟨b, off, h1, fun i hi => ?_⟩;obtain ⟨A', n', c', h3, h4⟩ := h2 i hi;exact ⟨A', n', c', h3, h4.le hl⟩⟩
end
end
section
open Go.RowKit
def zeroI : Nat -> List Value
 | 0 => []
 | n + 1 => .bool false :: .slice none 0 0 :: zeroI n
theorem zeroI_len : ∀ n, (zeroI n).length = n * 2
 | 0 => rfl
 | n + 1 => by simp only [zeroI, List.length_cons, zeroI_len n]; omega
theorem zeroI_at : ∀ (n i : Nat) (h : i < (zeroI n).length), (zeroI n)[i] = (#[Value.bool false, .slice none 0 0] : Array Value)[i % 2]!
 | 0, i, h => by simp [zeroI] at h
 | n + 1, 0, _ => rfl
 | n + 1, 1, _ => rfl
 | n + 1, i + 2, h => by
  have h' : i < (zeroI n).length := by simp only [zeroI, List.length_cons] at h; omega
  have := zeroI_at n i h';rw [Nat.add_mod_right];exact this
theorem made_ints (n : Nat) : madeCells #[Value.bool false, .slice none 0 0] (n * 2) = (zeroI n).toArray := by
 refine Array.ext (by rw [size_madeCells]; simp [zeroI_len]) (fun i h1 h2 => ?_);have h3 : i < (zeroI n).length := by simpa using h2
 have e2 : (zeroI n).toArray[i] = (zeroI n)[i] := by simp
 rw [e2, zeroI_at n i h3];simp [madeCells]
theorem Tryz.infoInt : (Tryz.prog.info? 28).map (fun i => (i.zero, i.size, i.bytes)) = some (some (.agg #[.bool false, .slice none 0 0]), 2, 32) := by kernel_rfl
theorem mk_ints (n : Nat) (hn : n <= 100000) (W : World) :
  (Instr.makeSlice 70 (.int .i64 (n : Int)) (.int .i64 (n : Int))).run Tryz.prog W = .ok (.slice (some ⟨W.heap.size, 0, none⟩) n n) (W.alloc (.cells (zeroI n).toArray 28)) := by
 obtain ⟨i0, hi, hz0, hz1, hz2⟩ := info_parts Tryz.infoInt;have h := run_make_rowN (P := Tryz.prog) 70 28 i0 _ Tryz.underlying70 hi hz0 .i64 .i64 n n (Nat.le_refl _) (by rw [hz2]; omega) (by omega) W;rw [hz1] at h;rw [<- made_ints];exact h
inductive ICells (w : World) (L : Nat) : List Int -> List Value -> Prop
 | nil : ICells w L [] []
 | cons {z : Int} {zs : List Int} {s : Bool} {A : Option Addr} {n c : Nat} {cs : List Value} : NI w z L s A n c -> ICells w L zs cs -> ICells w L (z :: zs) (.bool s :: .slice A n c :: cs)
structure IntsAt (w : World) (b o : Nat) (zs : List Int) (L : Nat) : Prop where
 at_ : ∀ i (h : i < zs.length), ∃ s A n c, w.cell? ⟨b, o + 2 * i, none⟩ = some (.bool s) /\ w.cell? ⟨b, o + 2 * i + 1, none⟩ = some (.slice A n c) /\ NI w zs[i] L s A n c
structure IPol (w : World) (A : Option Addr) (n c : Nat) (zs : List Int) (L : Nat) : Prop where
 len : zs.length = n
 cap : n <= c
 top : c <= maxLen
 at_ : zs ≠ [] -> ∃ b off, A = some ⟨b, off, none⟩ /\ IntsAt w b off zs L
def RetIPol (zs : List Int) (L : Nat) (w : World) (e : Ending) (w' : World) : Prop := ∃ A n c, e = .returned (.slice A n c) /\ IPol w' A n c zs L /\ Ext w w'
def IRow (w : World) (g : Nat) (zs : List Int) (L : Nat) : Prop := ∃ cs : List Value, Box w g 28 cs.toArray /\ ICells w L zs cs
section
variable {w w' : World} {z : Int} {zs ys : List Int} {L M b o g n c k : Nat} {s : Bool} {A : Option Addr} {cs ds : List Value}
theorem ICells.ext (h : ICells w L zs cs) (e : Ext w w') : ICells w' L zs cs := by
 induction h with
 | nil => exact .nil
 | cons h _ ih => exact .cons (h.ext e) ih
theorem ICells.len (h : ICells w L zs cs) : cs.length = zs.length * 2 := by
 induction h with
 | nil => rfl
 | cons _ _ ih => simp only [List.length_cons, ih]; omega
theorem ICells.append (h : ICells w L zs cs) (k : ICells w L ys ds) : ICells w L (zs ++ ys) (cs ++ ds) := by
 induction h with
 | nil => exact k
 | cons h _ ih => exact .cons h ih
theorem ICells.le (h : ICells w L zs cs) (hl : L <= M) : ICells w M zs cs := by
 induction h with
 | nil => exact .nil
 | cons h _ ih => exact .cons (h.le hl) ih
theorem ICells.nwl (h : ICells w L zs cs) : NWL cs := by
 induction h with
 | nil => intro u hu; cases hu
 | cons _ _ ih =>
  intro u hu;simp only [List.mem_cons] at hu
  rcases hu with rfl | rfl | hu
  ·intro k e; cases e
  ·intro k e; cases e
  ·exact ih u hu
theorem ICells.one (h : ICells w L zs cs) : ∀ u ∈ cs, u.oneCell' = true := by
 induction h with
 | nil => intro u hu; cases hu
 | cons _ _ ih =>
  intro u hu;simp only [List.mem_cons] at hu
  rcases hu with rfl | rfl | hu
  ·rfl
  ·rfl
  ·exact ih u hu
theorem ICells.ni (hf : ∀ z L s' A' n' c', NI w z L s' A' n' c' -> NI w' z L s' A' n' c') (h : ICells w L zs cs) : ICells w' L zs cs := by
 induction h with
 | nil => exact .nil
 | cons h _ ih => exact .cons (hf _ _ _ _ _ _ h) ih
theorem ICells.get (h : ICells w L zs cs) : ∀ i (hi : i < zs.length), ∃ s A n c, cs[2 * i]? = some (.bool s) /\ cs[2 * i + 1]? = some (.slice A n c) /\ NI w zs[i] L s A n c := by
 induction h with
 | nil => intro i hi; simp at hi
 | @cons z zs s A n c cs h _ ih =>
  intro i hi
  cases i with
  | zero => exact ⟨s, A, n, c, rfl, rfl, h⟩
  | succ i =>
   obtain ⟨s1, A1, n1, c1, k0, k1, k2⟩ := ih i (by simpa using hi);refine ⟨s1, A1, n1, c1, ?_, ?_, k2⟩
   ·rw [show 2 * (i + 1) = 2 * i + 1 + 1 by omega]; exact k0
   ·rw [show 2 * (i + 1) + 1 = 2 * i + 1 + 1 + 1 by omega]; exact k1
theorem ICells.set (h : ICells w L zs cs) (hz : NI w z L s A n c) : ∀ k, k < zs.length -> ICells w L (zs.set k z) ((cs.set (k * 2) (.bool s)).set (k * 2 + 1) (.slice A n c)) := by
 induction h with
 | nil => intro k hk; simp at hk
 | @cons z0 zs s0 A0 n0 c0 cs h0 h1 ih =>
  intro k hk
  cases k with
  | zero => exact .cons hz h1
  | succ k =>
   have := ih k (by simpa using hk);rw [show (k + 1) * 2 = k * 2 + 1 + 1 by omega];simp only [List.set_cons_succ];exact .cons h0 this
theorem ICells.zero (w : World) (L : Nat) : ∀ n, ICells w L (List.replicate n 0) (zeroI n)
 | 0 => .nil
 | n + 1 => by rw [List.replicate_succ]; exact .cons (NI.nil w L) (ICells.zero w L n)
theorem IntsAt.ext (h : IntsAt w b o zs L) (e : Ext w w') : IntsAt w' b o zs L := ⟨fun i hi => by
 obtain ⟨s, A, n, c, h1, h2, h3⟩ := h.at_ i hi;exact ⟨s, A, n, c, e.cellv h1, e.cellv h2, h3.ext e⟩⟩
theorem IntsAt.take (h : IntsAt w b o zs L) (k : Nat) : IntsAt w b o (zs.take k) L := ⟨fun i hi => by
 have hi' : i < zs.length := by rw [List.length_take] at hi; omega
 have := h.at_ i hi';rw [List.getElem_take];exact this⟩
theorem IPol.ext (h : IPol w A n c zs L) (e : Ext w w') : IPol w' A n c zs L :=
 ⟨h.len, h.cap, h.top, fun hq => by obtain ⟨b, off, h1, h2⟩ := h.at_ hq; exact ⟨b, off, h1, h2.ext e⟩⟩
theorem IPol.take (h : IPol w A n c zs L) {k : Nat} (hk : k <= n) : IPol w A k c (zs.take k) L := by
 refine ⟨by rw [List.length_take, h.len]; omega, Nat.le_trans hk h.cap, h.top, fun hq => ?_⟩;obtain ⟨b, off, h1, h2⟩ := h.at_ (fun e => hq (by rw [e]; simp));exact ⟨b, off, h1, h2.take k⟩
theorem IPol.none (w : World) (L : Nat) : IPol w none 0 0 [] L := ⟨rfl, Nat.le_refl _, Nat.zero_le _, fun h => absurd rfl h⟩
theorem IRow.ext (h : IRow w g zs L) (e : Ext w w') : IRow w' g zs L := by
 obtain ⟨cs, h1, h2⟩ := h;exact ⟨cs, h1.ext e, h2.ext e⟩
theorem IRow.frozen (h : IRow w g zs L) (i : Nat) : w.frozen? ⟨g, i, none⟩ = false := by
 obtain ⟨cs, h1, _⟩ := h;exact h1.frozen i
theorem IRow.lt (h : IRow w g zs L) : g < w.heap.size := by
 obtain ⟨cs, h1, _⟩ := h;exact h1.lt
theorem IRow.le (h : IRow w g zs L) (hl : L <= M) : IRow w g zs M := by
 obtain ⟨cs, h1, h2⟩ := h;exact ⟨cs, h1, h2.le hl⟩
theorem IRow.ints (h : IRow w g zs L) : IntsAt w g 0 zs L := by
 obtain ⟨cs, h1, h2⟩ := h;refine ⟨fun i hi => ?_⟩;obtain ⟨s, A, n, c, k0, k1, k2⟩ := h2.get i hi;rw [Nat.zero_add];exact ⟨s, A, n, c, h1.cell (2 * i) _ (by simpa using k0), h1.cell (2 * i + 1) _ (by simpa using k1), k2⟩
theorem IRow.pol (h : IRow w g zs L) (hn : zs.length = n) (hm : n <= maxLen) : IPol w (some ⟨g, 0, none⟩) n n zs L := ⟨hn, Nat.le_refl _, hm, fun _ => ⟨g, 0, rfl, h.ints⟩⟩
theorem IRow.new (w : World) (n L : Nat) : IRow (w.alloc (.cells (zeroI n).toArray 28)) w.heap.size (List.replicate n 0) L := ⟨zeroI n, Box.new w _ _, ICells.zero _ L n⟩
theorem IRow.get (h : IRow w g zs L) (hk : k < zs.length) : ∃ s A n c, w.cell? ⟨g, k * 2, none⟩ = some (.bool s) /\ w.cell? ⟨g, k * 2 + 1, none⟩ = some (.slice A n c) /\ NI w zs[k] L s A n c := by
 obtain ⟨s, A, n, c, h1, h2, h3⟩ := h.ints.at_ k hk;rw [Nat.zero_add, Nat.mul_comm] at h1 h2;exact ⟨s, A, n, c, h1, h2, h3⟩
theorem IRow.put (h : IRow w g zs L) (hk : k < zs.length) (hz : NI w z L s A n c) :
  IRow ((w.setCell ⟨g, k * 2, none⟩ (.bool s)).setCell ⟨g, k * 2 + 1, none⟩ (.slice A n c)) g (zs.set k z) L /\
  (∀ z L s' A' n' c', NI w z L s' A' n' c' -> NI ((w.setCell ⟨g, k * 2, none⟩ (.bool s)).setCell ⟨g, k * 2 + 1, none⟩ (.slice A n c)) z L s' A' n' c') /\
  (∀ W, Ext W w -> W.heap.size <= g -> Ext W ((w.setCell ⟨g, k * 2, none⟩ (.bool s)).setCell ⟨g, k * 2 + 1, none⟩ (.slice A n c))) /\
  (∀ g' T' cs', g' ≠ g -> Box w g' T' cs' -> Box ((w.setCell ⟨g, k * 2, none⟩ (.bool s)).setCell ⟨g, k * 2 + 1, none⟩ (.slice A n c)) g' T' cs') := by
 obtain ⟨cs, h1, h2⟩ := h;have F := ((FinRow.refl h1 h2.nwl).step (k * 2) (v := .bool s) (by intro k h; cases h)).step (k * 2 + 1) (v := .slice A n c) (by intro k h; cases h);exact ⟨⟨_, F.box, (h2.set hz k hk).ni F.ni⟩, F.ni, F.ext, F.far⟩
end
end
section
open Go.RowKit
attribute [local go_sem ↓] Go.wp_at_zero Go.wp_at_succ
def MulLe (K : Nat) : Prop := ∀ (A B : Option Addr) (c d n m : Nat) (xs ys : List Nat) (w : World), xs.length = n -> ys.length = m -> Rd w A xs -> Rd w B ys -> n <= K -> m <= K -> n <= c -> c <= maxLen -> m <= d -> d <= maxLen ->
  Calls Tryz.prog 113 #[.slice A n c, .slice B m d] w (RetN (fun zs => val zs = val xs * val ys /\ Nrm zs /\ zs.length <= xs.length + ys.length) w)
theorem Nrm.eq_nil {xs : List Nat} (h : Nrm xs) (hv : val xs = 0) : xs = [] := by
 have := h.len_le (k := 0) (by omega);exact List.eq_nil_of_length_eq_zero (by omega)
theorem Apart.nil (A : Option Addr) (g : Nat) : Apart A [] g := fun h => absurd rfl h
theorem Rd.trimL {w : World} {A : Option Addr} {xs : List Nat} (h : Rd w A xs) : Rd w A (trimL xs) := by rw [trimL_take]; exact h.take _
theorem Apart.trimL {A : Option Addr} {xs : List Nat} {g : Nat} (h : Apart A xs g) : Apart A (trimL xs) g := fun hn a ha => h (by rintro rfl; exact hn rfl) a ha
section
variable {A B : Option Addr} {c d n m : Nat} {xs ys : List Nat} {w : World}
theorem int_subtractFrom_0 : Calls Tryz.prog 159 #[.slice A 0 c, .slice B 0 d] w fun e w' => e = .returned (.tuple #[]) /\ w' = w := by
 go_enter Tryz.func159, Tryz.ntmps159
 go_wp2
 go_loopw [4, 12] (fun cr i wr => i = .int .i64 0 /\ cr = .int .u64 0 /\ wr = w) (fun _ i _ => 0)
 case atStart => exact ⟨rfl, rfl, rfl⟩
 case round =>
  obtain ⟨rfl, rfl, rfl⟩ := hrel
  go_wp2
  go_loopw [4, 8] (fun cr i wr' => i = .int .i64 0 /\ cr = .int .u64 0 /\ wr' = wr) (fun _ i _ => 0)
  case atStart => exact ⟨rfl, rfl, rfl⟩
  case round =>
   obtain ⟨rfl, rfl, rfl⟩ := hrel
   go_wp2
   go_end0
   exact ⟨rfl, rfl⟩
set_option maxRecDepth 100000 in
theorem int_addHalves_g {g N cz off K : Nat} {pre zs0 : List Nat} (hK : MulLe K) (hblk0 : BlkN w g (pre ++ zs0)) (hoff : pre.length = off) (hN : zs0.length = N) (hw : W32 zs0) (hx : Rd w A xs) (hm : xs.length = n) (hap : Apart A xs g) (hy : Rd w B ys) (hp : ys.length = n) (hbp : Apart B ys g)
  (h2 : 2 <= n) (hnK : (n + 1) / 2 + 1 <= K) (h100 : n <= 100000) (hl : n + n <= N) (hN2 : N <= 900000) (hf : val zs0 + val xs * val ys < 4294967296 ^ N) (hc : n <= c) (hcm : c <= maxLen) (hd : n <= d) (hdm : d <= maxLen) (hcz : N <= cz) (hczm : cz <= maxLen) :
  Calls Tryz.prog 163 #[.slice (some ⟨g, off, none⟩) N cz, .slice A n c, .slice B n d] w (Turned w g pre N [] fun zs => val zs = val zs0 + val xs * val ys) := by
 obtain ⟨ba, oa, rfl⟩ := hx.some (by omega);obtain ⟨bb, ob, rfl⟩ := hy.some (by omega);obtain ⟨h, hh⟩ : ∃ h, h = (n + 1) / 2 := ⟨_, rfl⟩;have Hh := Lib.hid (show ((n : Int) + 1) / 2 = (h : Int) by omega);have hh1 : h < n := by omega
 have hh2 : n <= 2 * h := by omega
 have hh3 : 2 * h <= n + 1 := by omega
 have hhK : h + 1 <= K := by omega
 clear hnK;have Hoff := Lib.hid hoff;clear hoff;have Hm := Lib.hid hm;have Hp := Lib.hid hp;have HN := Lib.hid hN;have Hf := Lib.hid hf;clear hm hp hN hf hh;unfold maxLen at hcm hdm hczm;have ra0 := hx.take h;have ra1 := hx.drop h;have rb0 := hy.take h;have rb1 := hy.drop h;have k1 : (h : Int) <= (n : Int) := by omega
 have k2 : (h : Int) <= (c : Int) := by omega
 have k3 : (h : Int) <= (d : Int) := by omega
 have k4 : (n : Int) <= (c : Int) := by omega
 have k5 : (n : Int) <= (d : Int) := by omega
 have k6 : ¬ c = h := by omega
 have k7 : ¬ d = h := by omega
 go_enter Tryz.func163, Tryz.ntmps163
 go_upto_region 1 with (fail)
 rw [Hh.out];have ES0 := Ext.refl w;refine wp_region_held_drew (S := Ext w) (by kernel_rfl) ES0.drew (fun ES => ?_);clear ES0;refine Late.s0 ES (fun hAl hQ => ?_);refine Late.t 0 18 ?v_0 hQ ?y_0 ?_
 case y_0 => intro w' hSw;go_simp;try rfl
 try simp only [zP]
 refine Late.t 1 19 ?v_1 hQ ?y_1 ?_
 case y_1 => intro w' hSw;go_simp;try rfl
 try simp only [zP]
 refine Late.t 2 20 ?v_2 hQ ?y_2 ?_
 case y_2 => intro w' hSw;go_simp;try rfl
 try simp only [zP]
 refine Late.t 4 22 ?v_3 hQ ?y_3 ?_
 case y_3 => intro w' hSw;go_simp;try rfl
 try simp only [zP]
 refine Late.t 5 23 ?v_4 hQ ?y_4 ?_
 case y_4 => intro w' hSw;go_simp;try rfl
 try simp only [zP]
 refine Late.t 6 24 ?v_5 hQ ?y_5 ?_
 case y_5 => intro w' hSw;go_simp;try rfl
 try simp only [zP]
 refine Late.t 8 26 ?v_6 hQ ?y_6 ?_
 case y_6 => intro w' hSw;go_simp;try rfl
 try simp only [zP]
 refine Late.t 9 27 ?v_7 hQ ?y_7 ?_
 case y_7 => intro w' hSw;go_simp;try rfl
 try simp only [zP]
 refine Late.t 10 28 ?v_8 hQ ?y_8 ?_
 case y_8 => intro w' hSw;go_simp;try rfl
 try simp only [zP]
 refine Late.t 12 30 ?v_9 hQ ?y_9 ?_
 case y_9 => intro w' hSw;go_simp;try rfl
 try simp only [zP]
 refine Late.t 13 31 ?v_a hQ ?y_a ?_
 case y_a => intro w' hSw;go_simp;try rfl
 try simp only [zP]
 refine Late.t 14 32 ?v_b hQ ?y_b ?_
 case y_b => intro w' hSw;go_simp;try rfl
 try simp only [zP]
 refine Late.cl (i := 3) rfl hAl hQ (fun w3 e3 E3 K hK => ?_);go_simp
 (go_at_call 114; refine (int_trimN (xs := xs.take h) (by have := Hm.out; have := Hp.out; simp; omega) (ra0.ext E3) (by omega) (by unfold maxLen; omega)).mono ?_; rintro e v3 ⟨rfl, rfl⟩)
 refine hK.out _ _ (Ext.refl _) ?_;clear hK K
 try simp only [zP]
 refine Late.cl (i := 7) rfl hAl hQ (fun w7 e7 E7 K hK => ?_);go_simp
 (go_at_call 114; refine (int_trimN (xs := xs.drop h) (by have := Hm.out; have := Hp.out; simp; omega) (ra1.ext E7) (by omega) (by unfold maxLen; omega)).mono ?_; rintro e v7 ⟨rfl, rfl⟩)
 refine hK.out _ _ (Ext.refl _) ?_;clear hK K
 try simp only [zP]
 refine Late.cl (i := 11) rfl hAl hQ (fun w11 e11 E11 K hK => ?_);go_simp
 (go_at_call 114; refine (int_trimN (xs := ys.take h) (by have := Hm.out; have := Hp.out; simp; omega) (rb0.ext E11) (by omega) (by unfold maxLen; omega)).mono ?_; rintro e v11 ⟨rfl, rfl⟩)
 refine hK.out _ _ (Ext.refl _) ?_;clear hK K
 try simp only [zP]
 refine Late.cl (i := 15) rfl hAl hQ (fun w15 e15 E15 K hK => ?_);go_simp
 (go_at_call 114; refine (int_trimN (xs := ys.drop h) (by have := Hm.out; have := Hp.out; simp; omega) (rb1.ext E15) (by omega) (by unfold maxLen; omega)).mono ?_; rintro e v15 ⟨rfl, rfl⟩)
 refine hK.out _ _ (Ext.refl _) ?_;clear hK K
 try simp only [zP]
 refine Late.t 16 7 ?v_c hQ ?y_c ?_
 case y_c => intro w' hSw;go_simp;try rfl
 try simp only [zP]
 refine Late.t 17 8 ?v_d hQ ?y_d ?_
 case y_d => intro w' hSw;go_simp;try rfl
 try simp only [zP]
 refine Late.t 18 9 ?v_e hQ ?y_e ?_
 case y_e => intro w' hSw;go_simp;try rfl
 try simp only [zP]
 refine Late.t 19 10 ?v_f hQ ?y_f ?_
 case y_f => intro w' hSw;go_simp;try rfl
 try simp only [zP]
 refine Late.d0 (fun wz ez Ez => ?_);clear hAl hQ ES;have ta0 := trimL_len (xs.take h);have ta1 := trimL_len (xs.drop h);have tb0 := trimL_len (ys.take h);have tb1 := trimL_len (ys.drop h);rw [List.length_take] at ta0 tb0;rw [List.length_drop] at ta1 tb1;rw [Hm.out] at ta0 ta1;rw [Hp.out] at tb0 tb1;have qa0 : Rd w (some ⟨ba, oa, none⟩) (trimL (xs.take h)) := by rw [trimL_take]; exact ra0.take _
 have qa1 : Rd w (some ⟨ba, oa + h, none⟩) (trimL (xs.drop h)) := by rw [trimL_take]; exact ra1.take _
 have qb0 : Rd w (some ⟨bb, ob, none⟩) (trimL (ys.take h)) := by rw [trimL_take]; exact rb0.take _
 have qb1 : Rd w (some ⟨bb, ob + h, none⟩) (trimL (ys.drop h)) := by rw [trimL_take]; exact rb1.take _
 generalize hta0 : trimL (xs.take h) = l0 at *;generalize hta1 : trimL (xs.drop h) = l1 at *;generalize htb0 : trimL (ys.take h) = m0 at *;generalize htb1 : trimL (ys.drop h) = m1 at *;have va0 : val l0 = val (xs.take h) := by rw [<- hta0, val_trimL]
 have va1 : val l1 = val (xs.drop h) := by rw [<- hta1, val_trimL]
 have vb0 : val m0 = val (ys.take h) := by rw [<- htb0, val_trimL]
 have vb1 : val m1 = val (ys.drop h) := by rw [<- htb1, val_trimL]
 have Va0 := Lib.hid va0;have Va1 := Lib.hid va1;have Vb0 := Lib.hid vb0;have Vb1 := Lib.hid vb1;clear hta0 hta1 htb0 htb1 va0 va1 vb0 vb1 ra0 ra1 rb0 rb1
 go_wp2_with fail
 refine (hK _ _ _ _ _ _ _ _ _ rfl rfl (qa0.ext Ez) (qb0.ext Ez) (by omega) (by omega) (by omega) (by unfold maxLen; omega) (by omega) (by unfold maxLen; omega)).mono ?_;rintro e u1 ⟨A1, c1, lo, rfl, hr1, hc1, hm1, ⟨hv1, hn1, hl1⟩, hx1⟩;have Hv1 := Lib.hid hv1;clear hv1;have F1 := Ez.trans hx1
 go_wp2_with fail
 refine (hK _ _ _ _ _ _ _ _ _ rfl rfl (qa1.ext F1) (qb1.ext F1) (by omega) (by omega) (by omega) (by unfold maxLen; omega) (by omega) (by unfold maxLen; omega)).mono ?_;rintro e u2 ⟨A2, c2, hi, rfl, hr2, hc2, hm2, ⟨hv2, hn2, hl2⟩, hx2⟩;have Hv2 := Lib.hid hv2;clear hv2;have F2 := F1.trans hx2
 go_wp2_with fail
 refine (int_add rfl rfl (qa0.ext F2) (qa1.ext F2) (by omega) (by omega)).mono ?_;rintro e u3 ⟨A3, c3, sa, rfl, hr3, hc3, hm3, ⟨hv3, hn3, hl3⟩, hx3⟩;have Hv3 := Lib.hid hv3;clear hv3;have F3 := F2.trans hx3
 go_wp2_with fail
 refine (int_add rfl rfl (qb0.ext F3) (qb1.ext F3) (by omega) (by omega)).mono ?_;rintro e u4 ⟨A4, c4, sb, rfl, hr4, hc4, hm4, ⟨hv4, hn4, hl4⟩, hx4⟩;have Hv4 := Lib.hid hv4;clear hv4;have F4 := F3.trans hx4
 go_wp2_with fail
 refine (hK _ _ _ _ _ _ _ _ _ rfl rfl (hr3.rd.ext hx4) hr4.rd (by omega) (by omega) hc3 hm3 hc4 hm4).mono ?_;rintro e u5 ⟨A5, c5, mi, rfl, hr5, hc5, hm5, ⟨hv5, hn5, hl5⟩, hx5⟩;have F5 := F4.trans hx5;have sx := val_split xs h (by have := Hm.out; omega);have sy := val_split ys h (by have := Hp.out; omega);rw [Hv3.out, Hv4.out, Va0.out, Va1.out, Vb0.out, Vb1.out] at hv5;have hlo := Hv1.out;have hhi := Hv2.out;rw [Va0.out, Vb0.out] at hlo;rw [Va1.out, Vb1.out] at hhi
 have hmul : val xs * val ys = val (xs.take h) * val (ys.take h) + 4294967296 ^ h * (val (xs.take h) * val (ys.drop h) + val (xs.drop h) * val (ys.take h)) + 4294967296 ^ h * 4294967296 ^ h * (val (xs.drop h) * val (ys.drop h)) := by
  rw [sx, sy]; exact kar_all
 obtain ⟨wmi, hh5⟩ := hr5
 rcases hh5 with rfl | ⟨g5, rfl, hg5, hb5⟩
 case' inl =>
  obtain ⟨mk, hmk0⟩ : ∃ mk : List Nat, mk = [] := ⟨_, rfl⟩;have hz0 : (val (xs.take h) + val (xs.drop h)) * (val (ys.take h) + val (ys.drop h)) = 0 := by rw [<- hv5]; rfl
  have hz1 : val (xs.take h) * val (ys.take h) <= 0 := by rw [<- hz0]; exact kar_low
  have hz2 : val (xs.drop h) * val (ys.drop h) <= 0 := by rw [<- hz0, Nat.add_comm (val (xs.take h)), Nat.add_comm (val (ys.take h))]; exact kar_low
  have hlo1 : lo = [] := hn1.eq_nil (by omega);have hhi1 : hi = [] := hn2.eq_nil (by omega)
  have hvk0 : val mk = val (xs.take h) * val (ys.drop h) + val (xs.drop h) * val (ys.take h) := by
   rw [hmk0];exact kar_mid (m1 := 0) (by omega) (by show val [] + _ = _; rw [show val [] = 0 from rfl]; omega)
  have Hlo := Lib.hid hlo;have Hhi := Lib.hid hhi;have Hmul := Lib.hid hmul;have Hvk := Lib.hid hvk0;clear hv5 hlo hhi hmul sx sy hz0 hvk0 hz1 hz2;subst hlo1;subst hhi1;have y1 : Rd u5 A1 [] := Rd.nil _ _;have y2 : Rd u5 A2 [] := Rd.nil _ _;have hlt : g < w.heap.size := hblk0.lt;have bz := hblk0.ext F5;have Rk : Rd u5 A5 mk := by rw [hmk0]; exact Rd.nil _ _
  have apk : Apart A5 mk g := by rw [hmk0]; exact Apart.nil _ _
  have Hck := Lib.hid (show mk.length = 0 by rw [hmk0]; rfl);have wmk : W32 mk := by rw [hmk0]; exact W32.nil
  have F7 : Ext w u5 := F5;clear hmk0
  go_wp2_with fail
  refine (int_subtractFrom_0).mono ?_;rintro e u6 ⟨rfl, rfl⟩
  go_wp2_with fail
  refine (int_subtractFrom_0).mono ?_;rintro e u7 ⟨rfl, rfl⟩
 case' inr =>
  have hlml : val lo <= val mi := by rw [hv5, hlo]; exact kar_low
  have hlen1 : lo.length <= mi.length := by
   refine Nat.le_of_not_lt fun hlt => ?_
   have := val_lt_of_len wmi hn1 hlt;omega
  have Hvm := Lib.hid hv5;have Hlo := Lib.hid hlo;have Hhi := Lib.hid hhi;have Hmul := Lib.hid hmul;have Hlml := Lib.hid hlml;clear hv5 hlo hhi hmul hlml sx sy;have z1 := hr1.rd.ext (((hx2.trans hx3).trans hx4).trans hx5);have z2 := hr2.rd.ext ((hx3.trans hx4).trans hx5);have hu5 : u1.heap.size <= u4.heap.size := ((hx2.trans hx3).trans hx4).size;have hu6 : u2.heap.size <= u4.heap.size := (hx3.trans hx4).size;have ap1 : Apart A1 lo g5 := (hr1.rd.ext ((hx2.trans hx3).trans hx4)).apart hg5;have ap2 : Apart A2 hi g5 := (hr2.rd.ext (hx3.trans hx4)).apart hg5;have hgw : w.heap.size <= g5 := Nat.le_trans F4.size hg5
  go_wp2_with fail
  refine (int_subtractFrom (pre := []) (zs0 := mi) (post := []) _ _ lo _ (by simpa using hb5) rfl rfl wmi z1 rfl ap1 hlen1 Hlml.out (by omega)).mono ?_;rintro e u6 ⟨mj, rfl, hlj, wmj, hbj, hvj, hmj⟩;simp only [List.nil_append, List.append_nil] at hbj;rw [Hvm.out, Hlo.out] at hvj;have hhl : val hi <= val mj := by rw [Hhi.out]; exact kar_high hvj
  have hlen2 : hi.length <= mi.length := by
   refine Nat.le_of_not_lt fun hlt => ?_
   have h1 := val_lt_of_len wmi hn2 hlt;have h2 := Hvm.out;omega
  have Hvj := Lib.hid hvj;have Hhl := Lib.hid hhl;have Hlj := Lib.hid hlj;clear hvj hhl hlj;have hlt : g < w.heap.size := hblk0.lt;have hne : g ≠ g5 := by omega
  go_wp2_with fail
  refine (int_subtractFrom (pre := []) (zs0 := mj) (post := []) _ _ hi _ (by simpa using hbj) rfl Hlj.out wmj (z2.mod hmj ap2) rfl ap2 hlen2 Hhl.out (by omega)).mono ?_;rintro e u7 ⟨mk, rfl, hlk, wmk, hbk, hvk, hmk⟩;simp only [List.nil_append, List.append_nil] at hbk;rw [Hhi.out] at hvk;have hvk2 := kar_mid Hvj.out hvk;have Hvk := Lib.hid hvk2;have Hlk := Lib.hid hlk;clear hvk hvk2 hlk;have y1 := (z1.mod hmj ap1).mod hmk ap1;have y2 := (z2.mod hmj ap2).mod hmk ap2;have bz := ((hblk0.ext F5).mod hmj hne).mod hmk hne;have Rk := hbk.rd0 wmk;have apk : Apart (some ⟨g5, 0, none⟩) mk g := fun _ a ha => by injection ha with ha; subst ha; show g5 ≠ g; omega
  have Hck := Lib.hid (show mk.length = mi.length by exact Hlk.out);have F7 : Ext w u7 := Mod.ext (Mod.ext F5 hmj hgw) hmk hgw
 all_goals
  have ag1 : Apart A1 _ g := fun hn a ha => by
   obtain ⟨_, hl | ⟨gl, hA, hgl, _⟩⟩ := hr1
   ·exact absurd hl hn
   ·have hs := Ez.size
    rw [ha] at hA; injection hA with hA; subst hA; show gl ≠ g; omega
  have ag2 : Apart A2 _ g := fun hn a ha => by
   obtain ⟨_, hl | ⟨gl, hA, hgl, _⟩⟩ := hr2
   ·exact absurd hl hn
   ·have hs := F1.size
    rw [ha] at hA; injection hA with hA; subst hA; show gl ≠ g; omega
  have hfm := Hf.out;rw [Hmul.out] at hfm;have hp1 : 0 < 4294967296 ^ h := Nat.pow_pos (by omega)
  go_wp2_with fail
  refine (int_addTo (pre := pre) (zs0 := zs0) (post := []) _ _ _ _ (by simpa using bz) Hoff.out HN.out hw y1 rfl ag1 (by first | omega | (simp; done) | (simp; omega)) (by omega)).mono ?_;rintro e u8 ⟨t1, rfl, hlt1, wt1, hbt1, ⟨cy1, _, hvt1⟩, hmt1⟩;rw [List.append_nil] at hbt1;rw [Hlo.out] at hvt1
  have hvt : val t1 = val zs0 + val (xs.take h) * val (ys.take h) := by
   have := kar_step (z := zs0) (zt := t1) (k := 0) (n := N) (cy := cy1) (m := val (xs.take h) * val (ys.take h)) HN.out (by omega) (by simpa using hvt1) (by rw [Nat.pow_zero, Nat.one_mul]; omega)
   simpa using this
  have e1 : (4294967296 : Nat) ^ N = 4294967296 ^ h * 4294967296 ^ (N - h) := by rw [<- Nat.pow_add]; congr 1; omega
  have e2 : (4294967296 : Nat) ^ N = 4294967296 ^ h * 4294967296 ^ h * 4294967296 ^ (N - 2 * h) := by rw [<- Nat.pow_add, <- Nat.pow_add]; congr 1; omega
  have e3 : (4294967296 : Nat) ^ (2 * h) = 4294967296 ^ h * 4294967296 ^ h := by rw [<- Nat.pow_add]; congr 1; omega
  have hmid : val mk < 4294967296 ^ (N - h) := by
   rw [Hvk.out];rw [e1] at hfm;exact kar_lt1 hp1 hfm
  have htk := Nrm.len_le (Nrm.trimL mk) (by rw [val_trimL]; exact hmid)
  have hhk := Nrm.len_le hn2 (k := N - 2 * h) (by
   rw [Hhi.out];have hfm2 := hfm;rw [e2] at hfm2;exact kar_lt2 (Nat.mul_pos hp1 hp1) hfm2)
  have hstep1 : val zs0 + val (xs.take h) * val (ys.take h) + 4294967296 ^ h * (val (xs.take h) * val (ys.drop h) + val (xs.drop h) * val (ys.take h)) < 4294967296 ^ N := by omega
  have Hst1 := Lib.hid hstep1;have Hvt := Lib.hid hvt;have Hlt1 := Lib.hid hlt1;have E3 := Lib.hid e3;have Hfm := Lib.hid hfm;clear e1 e2 e3 hvt hvt1 hlt1 hmid hstep1 hfm hp1;have Rk1 := Rk.mod hmt1 apk;have rk1 := Rk1.trimL;have y3 := y2.mod hmt1 ag2;have hb8 : BlkN u8 g ((pre ++ t1.take h) ++ t1.drop h ++ []) := by rw [List.append_nil, List.append_assoc, List.take_append_drop]; exact hbt1
  have l1 : (h : Int) <= (N : Int) := by omega
  have l2 : (N : Int) <= (cz : Int) := by omega
  have l3 : (h : Int) <= (cz : Int) := by omega
  have l4 : ¬ cz = h := by omega
  have apk1 := apk.trimL;clear k1 k2 k3 k4 k5 k6 k7 hx hy hap hbp ta0 ta1 tb0 tb1 qa0 qa1 qb0 qb1 hr1 hr2 hr3 hr4 hx1 hx2 hx3 hx4 hx5
  go_upto_region 7 with (fail)
  go_region_held3 (fun _ => True) (trivial)
   (first | (go_at_call 114; refine (int_trimN (xs := mk) Hck.out (Rk1.ext (Ext.refl _).drew) hc5 hm5).mono ?_; rintro e u8' ⟨rfl, rfl⟩) | (go_at_call 156; refine (int_addTo (n := N - h) (pre := pre ++ t1.take h) (zs0 := t1.drop h) (post := []) _ _ (trimL mk) _ (hb8.ext (Ext.refl _).drew) (by have := Hlt1.out; have := Hoff.out; simp; omega) (by have := Hlt1.out; simp; omega) (wt1.drop h) (rk1.ext (Ext.refl _).drew) rfl apk1 (by omega) (by omega)).mono ?_; rintro e u9 ⟨t2, rfl, hlt2, wt2, hbt2, ⟨cy2, _, hvt2⟩, hmt2⟩))
  rw [List.append_nil, List.append_assoc] at hbt2;rw [val_trimL, Hvk.out] at hvt2;have hv2 := kar_step (z := t1) (zt := t2) (k := h) (n := N) (cy := cy2) Hlt1.out (by omega) hvt2 (by rw [Hvt.out]; exact Hst1.out);have hl2z : (t1.take h ++ t2).length = N := by have := Hlt1.out; rw [List.length_append, List.length_take, hlt2]; omega
  have hw2z := (wt1.take h).append wt2;generalize hz2 : t1.take h ++ t2 = z2 at hbt2 hv2 hl2z hw2z;rw [Hvt.out] at hv2;have Hv2z := Lib.hid hv2;have Hl2z := Lib.hid hl2z;clear hz2 hv2 hl2z hvt2 hlt2 wt2 wt1 hb8 Rk1 rk1;have y4 := y3.mod ((Mod.refl u8 g).drew.trans hmt2) ag2;have hb9 : BlkN u9 g ((pre ++ z2.take (2 * h)) ++ z2.drop (2 * h) ++ []) := by rw [List.append_nil, List.append_assoc, List.take_append_drop]; exact hbt2
  have m1 : (2 : Int) * (h : Int) <= (N : Int) := by omega
  have m2 : (0 : Int) <= 2 * (h : Int) := by omega
  have m3 : (2 : Int) * (h : Int) <= (cz : Int) := by omega
  have m4 : ¬ cz = 2 * h := by omega
  have m5 : ((2 : Int) * (h : Int)).toNat = 2 * h := by omega
  have Hm5 := Lib.hid m5
  go_wp2_with (go_at_call 156; refine (int_addTo (n := N - 2 * h) (pre := pre ++ z2.take (2 * h)) (zs0 := z2.drop (2 * h)) (post := []) _ _ _ _ hb9 (by have := Hl2z.out; have := Hoff.out; simp; omega) (by have := Hl2z.out; simp; omega) (hw2z.drop _) y4 rfl ag2 (by first | omega | (simp; done) | (simp; omega)) (by omega)).mono ?_; rintro e u10 ⟨t3, rfl, hlt3, wt3, hbt3, ⟨cy3, _, hvt3⟩, hmt3⟩)
  go_end0
  have hfm := Hfm.out;rw [Hhi.out] at hvt3;have hv3 := kar_step (z := z2) (zt := t3) (k := 2 * h) (n := N) (cy := cy3) Hl2z.out (by omega) hvt3 (by rw [Hv2z.out, E3.out]; omega);rw [Hv2z.out, E3.out] at hv3;refine ⟨z2.take (2 * h) ++ t3, rfl, by have := Hl2z.out; rw [List.length_append, List.length_take, hlt3]; omega, (hw2z.take _).append wt3, by simpa [List.append_assoc] using hbt3, by show val _ = _; rw [hv3, Hmul.out]; omega, ?_⟩;exact (((F7.mod g).trans hmt1).trans ((Mod.refl u8 g).drew.trans hmt2)).trans hmt3
end
def AddProd (K : Nat) : Prop := ∀ (A B : Option Addr) (c d g off n cz m p : Nat) (pre zs0 xs ys : List Nat) (w : World), BlkN w g (pre ++ zs0) -> pre.length = off -> zs0.length = n -> W32 zs0 -> Rd w A xs -> xs.length = m -> Apart A xs g -> Rd w B ys -> ys.length = p -> Apart B ys g ->
  min m p <= K -> m <= 100000 -> p <= 100000 -> m + p <= n -> n <= 900000 -> val zs0 + val xs * val ys < 4294967296 ^ n -> m <= c -> c <= maxLen -> p <= d -> d <= maxLen -> n <= cz -> cz <= maxLen ->
  Calls Tryz.prog 145 #[.slice (some ⟨g, off, none⟩) n cz, .slice A m c, .slice B p d] w (Turned w g pre n [] fun zs => val zs = val zs0 + val xs * val ys)
theorem part_step {zs0 zs zt xs ys : List Nat} {k l n : Nat} (hn : zs.length = n) (hkl : k + l <= xs.length) (hk : k <= n) (hv : val zs = val zs0 + val (xs.take k) * val ys) (ht : val zt = val (zs.drop k) + val ((xs.drop k).take l) * val ys) (hf : val zs0 + val xs * val ys < 4294967296 ^ n) :
  val (zs.take k ++ zt) = val zs0 + val (xs.take (k + l)) * val ys := by
 have e1 : val (xs.take (k + l)) = val (xs.take k) + 4294967296 ^ k * val ((xs.drop k).take l) := by
  rw [List.take_add, val_append, List.length_take, Nat.min_eq_left (by omega)]
 have e2 : val (xs.take (k + l)) <= val xs := by
  have := val_split xs (k + l) hkl;omega
 have e3 := Nat.mul_le_mul_right (val ys) e2
 have h1 := kar_step (z := zs) (zt := zt) (k := k) (n := n) (cy := 0) (m := val ((xs.drop k).take l) * val ys) hn hk (by rw [Nat.mul_zero, Nat.add_zero]; exact ht) (by
  rw [hv, Nat.add_assoc, <- Nat.mul_assoc, <- Nat.add_mul, <- e1];omega)
 rw [h1, hv, Nat.add_assoc, <- Nat.mul_assoc, <- Nat.add_mul, <- e1]
theorem part_fits {zs0 zs xs ys : List Nat} {k l n : Nat} (hn : zs.length = n) (hkl : k + l <= xs.length) (hk : k <= n) (hv : val zs = val zs0 + val (xs.take k) * val ys) (hf : val zs0 + val xs * val ys < 4294967296 ^ n) :
  val (zs.drop k) + val ((xs.drop k).take l) * val ys < 4294967296 ^ (n - k) := by
 have e1 : val (xs.take (k + l)) = val (xs.take k) + 4294967296 ^ k * val ((xs.drop k).take l) := by
  rw [List.take_add, val_append, List.length_take, Nat.min_eq_left (by omega)]
 have e2 : val (xs.take (k + l)) <= val xs := by
  have := val_split xs (k + l) hkl;omega
 have e3 := Nat.mul_le_mul_right (val ys) e2;have e4 := val_split zs k (by omega);have e5 : (4294967296 : Nat) ^ n = 4294967296 ^ k * 4294967296 ^ (n - k) := by rw [<- Nat.pow_add]; congr 1; omega
 rw [e5] at hf;refine kar_lt2 (a := 0) (b := val (zs.take k)) (p := 4294967296 ^ k) (Nat.pow_pos (by omega)) ?_;have e6 : val (xs.take (k + l)) * val ys = val (xs.take k) * val ys + 4294967296 ^ k * (val ((xs.drop k).take l) * val ys) := by rw [e1, Nat.add_mul, Nat.mul_assoc]
 have e7 := Nat.mul_add (4294967296 ^ k) (val (zs.drop k)) (val ((xs.drop k).take l) * val ys);omega
section
variable {A B : Option Addr} {c d n m : Nat} {xs ys : List Nat} {w : World}
theorem addProd_s : AddProd 63 := by
 intro A B c d g off n cz m p pre zs0 xs ys w hb hoff hn hw hx hm hap hy hp hbp hk h1 h2 hl hn1 hf hc hcm hd hdm hcz hczm;exact int_addProduct_s (post := []) (by simpa using hb) hoff hn hw hx hm hap hy hp hbp (by omega) hl hf (by omega) hcz hczm
theorem mulLe_of {K : Nat} (h : AddProd K) (hK : K <= 100000) : MulLe K := by
 intro A B c d n m xs ys w hn hm hx hy hnK hmK hc hcm hd hdm;have hmk := mk_wordsA 105 Tryz.underlying105 n m (by omega);have hf : 0 + val xs * val ys < 4294967296 ^ (n + m) := by rw [Nat.zero_add, <- hn, <- hm]; exact prod_lt hx.1 hy.1
 have Hf := Lib.hid hf;have Hn := Lib.hid hn;have Hm := Lib.hid hm;clear hf hn hm
 go_enter Tryz.func113, Tryz.ntmps113
 go_wp2_with fail
 refine (h _ _ _ _ _ _ _ _ _ _ [] (List.replicate (n + m) 0) _ _ _ (by simpa using BlkN.new w (n + m)) rfl (by simp) (W32.replicate _) (hx.ext ((Ext.refl w).alloc _)) Hn.out (hx.apart (Nat.le_refl _)) (hy.ext ((Ext.refl w).alloc _)) Hm.out (hy.apart (Nat.le_refl _)) (by omega) (by omega) (by omega) (Nat.le_refl _) (by omega) (by rw [val_replicate]; exact Hf.out) hc hcm hd hdm (Nat.le_refl _) (by unfold maxLen; omega)).mono ?_;rintro e w2 ⟨zs, rfl, hzl, hzw, hzb, hzv, hmod⟩;have hext := hmod.ext ((Ext.refl w).alloc _) (Nat.le_refl _);simp only [List.nil_append, List.append_nil] at hzb;have Hzl := Lib.hid hzl;have Hzv := Lib.hid hzv;clear hzl hzv hmod
 go_wp2_with fail
 refine (int_trimN (xs := zs) Hzl.out (hzb.rd0 hzw) (Nat.le_refl _) (by unfold maxLen; omega)).mono ?_;rintro e w3 ⟨rfl, rfl⟩
 go_wp2_with fail
 go_ret
 have hlen := trimL_len zs;have hz := Hzl.out;have hn := Hn.out;have hm := Hm.out;refine ⟨_, _, trimL zs, rfl, ?_, by omega, by unfold maxLen; omega, ⟨by rw [val_trimL, Hzv.out, val_replicate, Nat.zero_add], Nrm.trimL _, by omega⟩, hext⟩;rw [trimL_take];exact (Own.of_blk hzb hzw (Nat.le_refl _)).take _
theorem addProd_eq {K g N cz off : Nat} {pre zs0 : List Nat} (hK : MulLe K) (hnK : (n + 1) / 2 + 1 <= K) (hblk0 : BlkN w g (pre ++ zs0)) (hoff : pre.length = off) (hN : zs0.length = N) (hw : W32 zs0) (hx : Rd w A xs) (hm : xs.length = n) (hap : Apart A xs g) (hy : Rd w B ys) (hp : ys.length = n) (hbp : Apart B ys g)
  (h2 : 64 <= n) (h100 : n <= 100000) (hl : n + n <= N) (hN2 : N <= 900000) (hf : val zs0 + val xs * val ys < 4294967296 ^ N) (hc : n <= c) (hcm : c <= maxLen) (hd : n <= d) (hdm : d <= maxLen) (hcz : N <= cz) (hczm : cz <= maxLen) :
  Calls Tryz.prog 145 #[.slice (some ⟨g, off, none⟩) N cz, .slice A n c, .slice B n d] w (Turned w g pre N [] fun zs => val zs = val zs0 + val xs * val ys) := by
 have ht1 : decide ((n : Int) < 64) = false := decide_eq_false (by omega);have HK := Lib.hid (int_addHalves_g hK hblk0 hoff hN hw hx hm hap hy hp hbp (by omega) hnK h100 hl hN2 hf hc hcm hd hdm hcz hczm);clear hm hp hN hf hblk0 hoff hnK
 go_enter Tryz.func145, Tryz.ntmps145
 go_wp2_with fail
 refine HK.out.mono ?_;rintro e u ⟨zs, rfl, h1, h2, h3, h4, h5⟩;have H1 := Lib.hid h1;have H4 := Lib.hid h4;clear h1 h4
 go_wp2_with fail
 go_end0
 exact ⟨zs, rfl, H1.out, h2, h3, H4.out, h5⟩
theorem addProd_gt {K g off n cz m p : Nat} {pre zs0 : List Nat} (hAP : AddProd K) (hK : 63 <= K) (hS : p = K + 1) (hblk0 : BlkN w g (pre ++ zs0)) (hoff : pre.length = off) (hn : zs0.length = n) (hw : W32 zs0) (hx : Rd w A xs) (hm : xs.length = m) (hap : Apart A xs g) (hy : Rd w B ys) (hp : ys.length = p) (hbp : Apart B ys g)
  (hmp : p < m) (h1 : m <= 100000) (h2 : p <= 100000) (hl : m + p <= n) (hn1 : n <= 900000) (hf : val zs0 + val xs * val ys < 4294967296 ^ n) (hc : m <= c) (hcm : c <= maxLen) (hd : p <= d) (hdm : d <= maxLen) (hcz : n <= cz) (hczm : cz <= maxLen) :
  Calls Tryz.prog 145 #[.slice (some ⟨g, off, none⟩) n cz, .slice A m c, .slice B p d] w (Turned w g pre n [] fun zs => val zs = val zs0 + val xs * val ys) := by
 have hM := mulLe_of hAP (by omega);have HS := Lib.hid hS;have hKs : K + 1 = p := hS.symm;have h64 : 64 <= p := by omega
 have hhK : (p + 1) / 2 + 1 <= K := by omega
 clear hS hKs;have Hczm := Lib.hid hczm;have Hcm := Lib.hid hcm;have Hdm := Lib.hid hdm;unfold maxLen at hczm hcm hdm;have Hoff := Lib.hid hoff;have Hn := Lib.hid hn;have Hm := Lib.hid hm;have Hp := Lib.hid hp;have hf' : val zs0 + val xs * val ys < 4294967296 ^ n := by exact hf
 have Hf := Lib.hid hf';have HhK := Lib.hid hhK;clear hoff hn hm hp hf hf' hhK;have ht1 : decide ((p : Int) < 64) = false := decide_eq_false (by omega);have ht2 : decide ((m : Int) < (p : Int)) = false := decide_eq_false (by omega);have ht3 : decide (m < p) = false := decide_eq_false (by omega);have ht4 : decide ((p : Int) < (m : Int)) = true := decide_eq_true (by omega)
 go_enter Tryz.func145, Tryz.ntmps145
 go_wp2_with fail
 go_loopw [8] (fun i wr => ∃ (k : Nat) (zs : List Nat), i = .int .i64 (k : Int) /\ k <= 200000 /\ zs.length = n /\ W32 zs /\ val zs = val zs0 + val (xs.take k) * val ys /\ BlkN wr g (pre ++ zs) /\ Mod w wr g) (fun i _ => m - (intOf i).toNat)
 case atStart => exact ⟨0, zs0, rfl, by omega, Hn.out, hw, by simp [val], hblk0, Mod.refl _ _⟩
 case round =>
  obtain ⟨k, zs, rfl, hk, hzl, hzw, hzv, hblk, hmod⟩ := hrel;have Hzl := Lib.hid hzl;have Hzv := Lib.hid hzv;clear hzl hzv
  by_cases hlt : k < m
  ·have hI : (k : Int) < (m : Int) := by omega
   obtain ⟨lb, lo, hA⟩ := hx.some (by have := Hm.out; omega);subst hA;have hkn : (k : Int) <= (n : Int) := by omega
   have hkc : ¬ cz = k := by omega
   have hkc2 : ¬ c = k := by omega
   obtain ⟨q, hq⟩ : ∃ q, q = k + p := ⟨_, rfl⟩;have hIq : (k : Int) + (p : Int) = (q : Int) := by omega
   have hWq : IntKind.i64.wrap (q : Int) = (q : Int) := IntWalk.i64_in _ (by omega);have hkL : (k : Int) <= (m : Int) := by omega
   have hLc : (m : Int) <= (c : Int) := by omega
   have hkq : (k : Int) <= (q : Int) := by omega
   have Hq := Lib.hid hq
   by_cases hle : q <= m
   ·have hmin : min (q : Int) (m : Int) = (q : Int) := by omega
    have hqc : (q : Int) <= (c : Int) := by omega
    have hkl : k + (p) <= xs.length := by have := Hm.out; omega
    have hb1 : BlkN wr g ((pre ++ zs.take k) ++ zs.drop k) := by rw [List.append_assoc, List.take_append_drop]; exact hblk
    have hrk := ((hx.mod hmod hap).drop k).take (p);have hfk := part_fits (k := k) (l := (p)) Hzl.out hkl (by omega) Hzv.out Hf.out;have hlk : ((xs.drop k).take (p)).length = p := by rw [List.length_take, List.length_drop, Hm.out]; omega
    have hlz : (zs.drop k).length = n - k := by rw [List.length_drop, Hzl.out]
    have hlp : (pre ++ zs.take k).length = off + k := by rw [List.length_append, Hoff.out, List.length_take, Hzl.out]; omega
    have hapk : Apart (some ⟨lb, lo + k, none⟩) ((xs.drop k).take (p)) g := fun hn a ha => by
     injection ha with ha
     subst ha;exact hap (by rintro h0; rw [h0] at hn; simp at hn) ⟨lb, lo, none⟩ rfl
    have hb2 := hb1.ext ((Ext.refl wr).drew);have hrk2 := hrk.ext ((Ext.refl wr).drew);have hsh := (hy.mod hmod hbp).ext ((Ext.refl wr).drew)
    have HC := Lib.hid (show Calls Tryz.prog 145 #[.slice (some ⟨g, off + k, none⟩) (n - k) (cz - k), .slice (some ⟨lb, lo + k, none⟩) (q - k) (c - k), .slice B p d] wr.drew (Turned wr.drew g (pre ++ zs.take k) (n - k) [] fun zt => val zt = val (zs.drop k) + val ((xs.drop k).take (p)) * val ys) by
     rw [show q - k = p by omega];exact addProd_eq (c := c - k) (d := d) hM HhK.out hb2 hlp hlz (hzw.drop k) hrk2 hlk hapk hsh Hp.out hbp h64 (by omega) (by omega) (by omega) hfk (by omega) (by unfold maxLen; omega) hd Hdm.out (by omega : n - k <= cz - k) (by unfold maxLen; omega))
    have Hkl := Lib.hid hkl;clear hq;clear hkl hb1 hrk hfk hlk hlz hlp hapk hb2 hrk2 hsh
    go_upto_region 13 with (fail)
    go_region_held3 (fun _ => True) (trivial)
     (first | (go_at_call 145; refine HC.out.mono ?_; rintro e w2 ⟨zt, rfl, hztl, hztw, hztb, hztv, hmod2⟩))
    go_wp2_with fail
    go_roundw
    case rel =>
     refine ⟨q, zs.take k ++ zt, by go_num, by omega, ?_, (hzw.take k).append hztw, ?_, by simpa [List.append_assoc] using hztb, (hmod.drew).trans hmod2⟩
     ·have := Hzl.out
      rw [List.length_append, List.length_take, hztl]; omega
     ·have hps := part_step Hzl.out Hkl.out (by omega) Hzv.out hztv Hf.out
      rw [Hq.out]; exact hps
    case measure => simp [intOf]; omega
   ·have hmin : min (q : Int) (m : Int) = (m : Int) := by omega
    have hkl : k + (m - k) <= xs.length := by have := Hm.out; omega
    have hb1 : BlkN wr g ((pre ++ zs.take k) ++ zs.drop k) := by rw [List.append_assoc, List.take_append_drop]; exact hblk
    have hrk := ((hx.mod hmod hap).drop k).take (m - k);have hfk := part_fits (k := k) (l := (m - k)) Hzl.out hkl (by omega) Hzv.out Hf.out;have hlk : ((xs.drop k).take (m - k)).length = m - k := by rw [List.length_take, List.length_drop, Hm.out]; omega
    have hlz : (zs.drop k).length = n - k := by rw [List.length_drop, Hzl.out]
    have hlp : (pre ++ zs.take k).length = off + k := by rw [List.length_append, Hoff.out, List.length_take, Hzl.out]; omega
    have hapk : Apart (some ⟨lb, lo + k, none⟩) ((xs.drop k).take (m - k)) g := fun hn a ha => by
     injection ha with ha
     subst ha;exact hap (by rintro h0; rw [h0] at hn; simp at hn) ⟨lb, lo, none⟩ rfl
    have hb2 := hb1.ext ((Ext.refl wr).drew);have hrk2 := hrk.ext ((Ext.refl wr).drew);have hsh := (hy.mod hmod hbp).ext ((Ext.refl wr).drew)
    have HC := Lib.hid (show Calls Tryz.prog 145 #[.slice (some ⟨g, off + k, none⟩) (n - k) (cz - k), .slice (some ⟨lb, lo + k, none⟩) (m - k) (c - k), .slice B p d] wr.drew (Turned wr.drew g (pre ++ zs.take k) (n - k) [] fun zt => val zt = val (zs.drop k) + val ((xs.drop k).take (m - k)) * val ys) by
     rw [show m - k = m - k by omega];exact hAP _ _ (c - k) d _ _ _ (cz - k) _ _ _ _ _ _ _ hb2 hlp hlz (hzw.drop k) hrk2 hlk hapk hsh Hp.out hbp (by have := HS.out; omega) (by omega) (by omega) (by omega) (by omega) hfk (by omega) (by unfold maxLen; omega) hd Hdm.out (by omega) (by unfold maxLen; omega))
    have Hkl := Lib.hid hkl;clear hq;clear hkl hb1 hrk hfk hlk hlz hlp hapk hb2 hrk2 hsh
    go_upto_region 13 with (fail)
    go_region_held3 (fun _ => True) (trivial)
     (first | (go_at_call 145; refine HC.out.mono ?_; rintro e w2 ⟨zt, rfl, hztl, hztw, hztb, hztv, hmod2⟩))
    go_wp2_with fail
    go_roundw
    case rel =>
     refine ⟨q, zs.take k ++ zt, by go_num, by omega, ?_, (hzw.take k).append hztw, ?_, by simpa [List.append_assoc] using hztb, (hmod.drew).trans hmod2⟩
     ·have := Hzl.out
      rw [List.length_append, List.length_take, hztl]; omega
     ·have hps := part_step Hzl.out Hkl.out (by omega) Hzv.out hztv Hf.out
      rw [show xs.take (k + (m - k)) = xs from List.take_of_length_le (by have := Hm.out; omega)] at hps; rw [show xs.take q = xs from List.take_of_length_le (by have := Hm.out; omega)]; exact hps
    case measure => simp [intOf]; omega
  ·have Hfin := Lib.hid (show val zs = val zs0 + val xs * val ys by rw [Hzv.out, List.take_of_length_le (by have := Hm.out; omega)])
   go_wp2
   go_end0
   exact ⟨zs, rfl, Hzl.out, hzw, by simpa using hblk, Hfin.out, hmod⟩
theorem addProd_lt {K g off n cz m p : Nat} {pre zs0 : List Nat} (hAP : AddProd K) (hK : 63 <= K) (hS : m = K + 1) (hblk0 : BlkN w g (pre ++ zs0)) (hoff : pre.length = off) (hn : zs0.length = n) (hw : W32 zs0) (hx : Rd w A xs) (hm : xs.length = m) (hap : Apart A xs g) (hy : Rd w B ys) (hp : ys.length = p) (hbp : Apart B ys g)
  (hmp : m < p) (h1 : m <= 100000) (h2 : p <= 100000) (hl : m + p <= n) (hn1 : n <= 900000) (hf : val zs0 + val xs * val ys < 4294967296 ^ n) (hc : m <= c) (hcm : c <= maxLen) (hd : p <= d) (hdm : d <= maxLen) (hcz : n <= cz) (hczm : cz <= maxLen) :
  Calls Tryz.prog 145 #[.slice (some ⟨g, off, none⟩) n cz, .slice A m c, .slice B p d] w (Turned w g pre n [] fun zs => val zs = val zs0 + val xs * val ys) := by
 have hM := mulLe_of hAP (by omega);have HS := Lib.hid hS;have hKs : K + 1 = m := hS.symm;have h64 : 64 <= m := by omega
 have hhK : (m + 1) / 2 + 1 <= K := by omega
 clear hS hKs;have Hczm := Lib.hid hczm;have Hcm := Lib.hid hcm;have Hdm := Lib.hid hdm;unfold maxLen at hczm hcm hdm;have Hoff := Lib.hid hoff;have Hn := Lib.hid hn;have Hm := Lib.hid hm;have Hp := Lib.hid hp;have hf' : val zs0 + val ys * val xs < 4294967296 ^ n := by rw [Nat.mul_comm]; exact hf
 have Hf := Lib.hid hf';have HhK := Lib.hid hhK;clear hoff hn hm hp hf hf' hhK;have ht1 : decide ((m : Int) < 64) = false := decide_eq_false (by omega);have ht2 : decide ((m : Int) < (p : Int)) = true := decide_eq_true (by omega);have ht3 : decide (m < p) = true := decide_eq_true (by omega);have ht4 : decide ((m : Int) < (p : Int)) = true := decide_eq_true (by omega)
 go_enter Tryz.func145, Tryz.ntmps145
 go_wp2_with fail
 go_loopw [8] (fun i wr => ∃ (k : Nat) (zs : List Nat), i = .int .i64 (k : Int) /\ k <= 200000 /\ zs.length = n /\ W32 zs /\ val zs = val zs0 + val (ys.take k) * val xs /\ BlkN wr g (pre ++ zs) /\ Mod w wr g) (fun i _ => p - (intOf i).toNat)
 case atStart => exact ⟨0, zs0, rfl, by omega, Hn.out, hw, by simp [val], hblk0, Mod.refl _ _⟩
 case round =>
  obtain ⟨k, zs, rfl, hk, hzl, hzw, hzv, hblk, hmod⟩ := hrel;have Hzl := Lib.hid hzl;have Hzv := Lib.hid hzv;clear hzl hzv
  by_cases hlt : k < p
  ·have hI : (k : Int) < (p : Int) := by omega
   obtain ⟨lb, lo, hA⟩ := hy.some (by have := Hp.out; omega);subst hA;have hkn : (k : Int) <= (n : Int) := by omega
   have hkc : ¬ cz = k := by omega
   have hkc2 : ¬ d = k := by omega
   obtain ⟨q, hq⟩ : ∃ q, q = k + m := ⟨_, rfl⟩;have hIq : (k : Int) + (m : Int) = (q : Int) := by omega
   have hWq : IntKind.i64.wrap (q : Int) = (q : Int) := IntWalk.i64_in _ (by omega);have hkL : (k : Int) <= (p : Int) := by omega
   have hLc : (p : Int) <= (d : Int) := by omega
   have hkq : (k : Int) <= (q : Int) := by omega
   have Hq := Lib.hid hq
   by_cases hle : q <= p
   ·have hmin : min (q : Int) (p : Int) = (q : Int) := by omega
    have hqc : (q : Int) <= (d : Int) := by omega
    have hkl : k + (m) <= ys.length := by have := Hp.out; omega
    have hb1 : BlkN wr g ((pre ++ zs.take k) ++ zs.drop k) := by rw [List.append_assoc, List.take_append_drop]; exact hblk
    have hrk := ((hy.mod hmod hbp).drop k).take (m);have hfk := part_fits (k := k) (l := (m)) Hzl.out hkl (by omega) Hzv.out Hf.out;have hlk : ((ys.drop k).take (m)).length = m := by rw [List.length_take, List.length_drop, Hp.out]; omega
    have hlz : (zs.drop k).length = n - k := by rw [List.length_drop, Hzl.out]
    have hlp : (pre ++ zs.take k).length = off + k := by rw [List.length_append, Hoff.out, List.length_take, Hzl.out]; omega
    have hapk : Apart (some ⟨lb, lo + k, none⟩) ((ys.drop k).take (m)) g := fun hn a ha => by
     injection ha with ha
     subst ha;exact hbp (by rintro h0; rw [h0] at hn; simp at hn) ⟨lb, lo, none⟩ rfl
    have hb2 := hb1.ext ((Ext.refl wr).drew);have hrk2 := hrk.ext ((Ext.refl wr).drew);have hsh := (hx.mod hmod hap).ext ((Ext.refl wr).drew)
    have HC := Lib.hid (show Calls Tryz.prog 145 #[.slice (some ⟨g, off + k, none⟩) (n - k) (cz - k), .slice (some ⟨lb, lo + k, none⟩) (q - k) (d - k), .slice A m c] wr.drew (Turned wr.drew g (pre ++ zs.take k) (n - k) [] fun zt => val zt = val (zs.drop k) + val ((ys.drop k).take (m)) * val xs) by
     rw [show q - k = m by omega];exact addProd_eq (c := d - k) (d := c) hM HhK.out hb2 hlp hlz (hzw.drop k) hrk2 hlk hapk hsh Hm.out hap h64 (by omega) (by omega) (by omega) hfk (by omega) (by unfold maxLen; omega) hc Hcm.out (by omega : n - k <= cz - k) (by unfold maxLen; omega))
    have Hkl := Lib.hid hkl;clear hq;clear hkl hb1 hrk hfk hlk hlz hlp hapk hb2 hrk2 hsh
    go_upto_region 13 with (fail)
    go_region_held3 (fun _ => True) (trivial)
     (first | (go_at_call 145; refine HC.out.mono ?_; rintro e w2 ⟨zt, rfl, hztl, hztw, hztb, hztv, hmod2⟩))
    go_wp2_with fail
    go_roundw
    case rel =>
     refine ⟨q, zs.take k ++ zt, by go_num, by omega, ?_, (hzw.take k).append hztw, ?_, by simpa [List.append_assoc] using hztb, (hmod.drew).trans hmod2⟩
     ·have := Hzl.out
      rw [List.length_append, List.length_take, hztl]; omega
     ·have hps := part_step Hzl.out Hkl.out (by omega) Hzv.out hztv Hf.out
      rw [Hq.out]; exact hps
    case measure => simp [intOf]; omega
   ·have hmin : min (q : Int) (p : Int) = (p : Int) := by omega
    have hkl : k + (p - k) <= ys.length := by have := Hp.out; omega
    have hb1 : BlkN wr g ((pre ++ zs.take k) ++ zs.drop k) := by rw [List.append_assoc, List.take_append_drop]; exact hblk
    have hrk := ((hy.mod hmod hbp).drop k).take (p - k);have hfk := part_fits (k := k) (l := (p - k)) Hzl.out hkl (by omega) Hzv.out Hf.out;have hlk : ((ys.drop k).take (p - k)).length = p - k := by rw [List.length_take, List.length_drop, Hp.out]; omega
    have hlz : (zs.drop k).length = n - k := by rw [List.length_drop, Hzl.out]
    have hlp : (pre ++ zs.take k).length = off + k := by rw [List.length_append, Hoff.out, List.length_take, Hzl.out]; omega
    have hapk : Apart (some ⟨lb, lo + k, none⟩) ((ys.drop k).take (p - k)) g := fun hn a ha => by
     injection ha with ha
     subst ha;exact hbp (by rintro h0; rw [h0] at hn; simp at hn) ⟨lb, lo, none⟩ rfl
    have hb2 := hb1.ext ((Ext.refl wr).drew);have hrk2 := hrk.ext ((Ext.refl wr).drew);have hsh := (hx.mod hmod hap).ext ((Ext.refl wr).drew)
    have HC := Lib.hid (show Calls Tryz.prog 145 #[.slice (some ⟨g, off + k, none⟩) (n - k) (cz - k), .slice (some ⟨lb, lo + k, none⟩) (p - k) (d - k), .slice A m c] wr.drew (Turned wr.drew g (pre ++ zs.take k) (n - k) [] fun zt => val zt = val (zs.drop k) + val ((ys.drop k).take (p - k)) * val xs) by
     rw [show p - k = p - k by omega];exact hAP _ _ (d - k) c _ _ _ (cz - k) _ _ _ _ _ _ _ hb2 hlp hlz (hzw.drop k) hrk2 hlk hapk hsh Hm.out hap (by have := HS.out; omega) (by omega) (by omega) (by omega) (by omega) hfk (by omega) (by unfold maxLen; omega) hc Hcm.out (by omega) (by unfold maxLen; omega))
    have Hkl := Lib.hid hkl;clear hq;clear hkl hb1 hrk hfk hlk hlz hlp hapk hb2 hrk2 hsh
    go_upto_region 13 with (fail)
    go_region_held3 (fun _ => True) (trivial)
     (first | (go_at_call 145; refine HC.out.mono ?_; rintro e w2 ⟨zt, rfl, hztl, hztw, hztb, hztv, hmod2⟩))
    go_wp2_with fail
    go_roundw
    case rel =>
     refine ⟨q, zs.take k ++ zt, by go_num, by omega, ?_, (hzw.take k).append hztw, ?_, by simpa [List.append_assoc] using hztb, (hmod.drew).trans hmod2⟩
     ·have := Hzl.out
      rw [List.length_append, List.length_take, hztl]; omega
     ·have hps := part_step Hzl.out Hkl.out (by omega) Hzv.out hztv Hf.out
      rw [show ys.take (k + (p - k)) = ys from List.take_of_length_le (by have := Hp.out; omega)] at hps; rw [show ys.take q = ys from List.take_of_length_le (by have := Hp.out; omega)]; exact hps
    case measure => simp [intOf]; omega
  ·have Hfin := Lib.hid (show val zs = val zs0 + val xs * val ys by rw [Hzv.out, List.take_of_length_le (by have := Hp.out; omega), Nat.mul_comm])
   go_wp2
   go_end0
   exact ⟨zs, rfl, Hzl.out, hzw, by simpa using hblk, Hfin.out, hmod⟩
theorem addProd_all : ∀ K, 63 <= K -> K <= 100000 -> AddProd K := by
 intro K
 induction K with
 | zero => intro h; omega
 | succ K ih =>
  intro h1 h2
  rcases Nat.lt_or_ge K 63 with hK | hK
  ·obtain rfl : K = 62 := by omega
   exact addProd_s
  ·have hI := ih hK (by omega)
   intro A B c d g off n cz m p pre zs0 xs ys w hb hoff hn hw hx hm hap hy hp hbp hk h3 h4 hl hn1 hf hc hcm hd hdm hcz hczm
   by_cases hmin : min m p <= K
   ·exact hI _ _ _ _ _ _ _ _ _ _ _ _ _ _ _ hb hoff hn hw hx hm hap hy hp hbp hmin h3 h4 hl hn1 hf hc hcm hd hdm hcz hczm
   ·rcases Nat.lt_trichotomy m p with hlt | heq | hgt
    ·exact addProd_lt hI hK (by omega) hb hoff hn hw hx hm hap hy hp hbp hlt h3 h4 hl hn1 hf hc hcm hd hdm hcz hczm
    ·subst heq
     exact addProd_eq (mulLe_of hI (by omega)) (by omega) hb hoff hn hw hx hm hap hy hp hbp (by omega) h3 hl hn1 hf hc hcm hd hdm hcz hczm
    ·exact addProd_gt hI hK (by omega) hb hoff hn hw hx hm hap hy hp hbp hgt h3 h4 hl hn1 hf hc hcm hd hdm hcz hczm
theorem mulLe_all : MulLe 100000 := mulLe_of (addProd_all 100000 (by omega) (by omega)) (by omega)
end
section
variable {A B : Option Addr} {c d n m : Nat} {xs ys : List Nat} {w : World} {s t : Bool}
theorem int_Mul_g (hn : xs.length = n) (hm : ys.length = m) (hx : Rd w A xs) (hy : Rd w B ys) (hc : n <= c) (hcm : c <= maxLen) (hd : m <= d) (hdm : d <= maxLen) (h1 : n <= 100000) (h2 : m <= 100000) :
  Calls Tryz.prog 70 #[.agg #[.bool s, .slice A n c], .agg #[.bool t, .slice B m d]] w (RetI (ival s xs * ival t ys) (xs.length + ys.length) w) := by
 have Hn := Lib.hid hn;have Hm := Lib.hid hm;clear hn hm;have lx := trimL_len xs;have ly := trimL_len ys;have hxt : Rd w A (trimL xs) := by rw [trimL_take]; exact hx.take _
 have hyt : Rd w B (trimL ys) := by rw [trimL_take]; exact hy.take _
 go_enter Tryz.func70, Tryz.ntmps70
 go_upto_region 1 with (fail)
 obtain ⟨W, hW, extW, bx, by_, bz, hz⟩ := box3 w 28 28 28 #[.bool s, .slice A n c] #[.bool t, .slice B m d] #[.bool false, .slice none 0 0];rw [<- hW];clear hW;have x0 := bx.cell 0 (.bool s) rfl;have x1 := bx.cell 1 (.slice A n c) rfl;have y0 := by_.cell 0 (.bool t) rfl;have y1 := by_.cell 1 (.slice B m d) rfl
 go_region_held3 (fun w' => w'.cell? ⟨w.heap.size, 0, none⟩ = some (.bool s) /\ w'.cell? ⟨w.heap.size, 1, none⟩ = some (.slice A n c) /\ w'.cell? ⟨w.heap.size + 1, 0, none⟩ = some (.bool t) /\ w'.cell? ⟨w.heap.size + 1, 1, none⟩ = some (.slice B m d)) (first | (go_split_ands; refine ⟨?_, ?_, ?_, ?_⟩ <;> first | (exact Ext.cellv (by assumption) (by assumption)) | (refine (cell_far2 (by omega)).trans ?_; assumption)) | go_keep)
  (first | (go_at_call_of 114 A; refine (int_trimN Hn.out (hx.ext (by first | exact extW | exact extW.drew | exact extW.drewN _ | exact (extW.drew).drew)) hc hcm).mono ?_; rintro e w1 ⟨rfl, rfl⟩) | (go_at_call_of 114 B; refine (int_trimN Hm.out (hy.ext (by first | exact extW | exact extW.drew | exact extW.drewN _ | exact (extW.drew).drew)) hd hdm).mono ?_; rintro e w1 ⟨rfl, rfl⟩) | (go_at_call 113; refine (mulLe_all _ _ _ _ _ _ _ _ _ rfl rfl (hxt.ext (by first | exact extW | exact extW.drew | exact extW.drewN _ | exact (extW.drew).drew)) (hyt.ext (by first | exact extW | exact extW.drew | exact extW.drewN _ | exact (extW.drew).drew)) (by have := Hn.out; have := Hm.out; omega) (by have := Hn.out; have := Hm.out; omega) (by have := Hn.out; have := Hm.out; omega) hcm (by have := Hn.out; have := Hm.out; omega) hdm).mono ?_; rintro e w2 ⟨A2, c2, zs, rfl, ho2, hc2, hm2, ⟨hv2, hn2, hl2⟩, hext2⟩; have Hv2 := Lib.hid hv2; clear hv2) | (go_at_call 112; refine (int_signed rfl ho2.rd hc2 hm2 hn2).mono ?_; rintro e w3 ⟨b3, A3, c3, rs, rfl, hr3, hc3, hm3, hi3, hl3, hext3⟩; have ext3 := ((Ext.refl W).drew.trans hext2).trans hext3; have bz3 := bz.ext ext3; have z0 := bz3.cell 0 (.bool false) rfl; have z1 := bz3.cell 1 (.slice none 0 0) rfl; have f0 := bz3.frozen 0; have f1 := bz3.frozen 1))
 go_wp2_with fail
 obtain ⟨r1, r2, r3, r4⟩ := fin_pair (b := b3) (n := rs.length) (c := c3) (extW.trans ext3) (by omega) bz3 hr3;exact bodyPost_ret (v := .agg #[.bool b3, .slice A3 rs.length c3]) (by simp [results, Tryz.results70, go_sem, r3, r4]) rfl ⟨b3, A3, c3, rs, rfl, r1, hc3, hm3, by rw [ival_mul Hv2.out, ival_trim, ival_trim] at hi3; exact hi3, by omega, r2⟩
end
section
variable {w : World} {z y : Int} {L M : Nat} {s t : Bool} {A B : Option Addr} {n c m d : Nat}
theorem p_MulG (h : NI w z L s A n c) (k : NI w y M t B m d) (hL : L <= 50000) (hM : M <= 50000) : Calls Tryz.prog 70 #[.agg #[.bool s, .slice A n c], .agg #[.bool t, .slice B m d]] w (RetNI (z * y) (L + M) w) := by
 obtain ⟨xs, hn, hx, hc, hcm, hi, hl⟩ := h.out;obtain ⟨ys, hm, hy, hd, hdm, hj, hk⟩ := k.out;refine (int_Mul_g hn hm hx hy hc hcm hd hdm (by omega) (by omega)).mono fun e w' hr => ?_
 rw [hi.eq, hj.eq] at hr;exact hr.ni (by omega)
end
section
variable {w w' : World} {z y : Int} {L M : Nat} {s t : Bool} {A B : Option Addr} {n c m d : Nat} {zs ys : List Int}
theorem p_isOneT (h : NI w z L s A n c) : Calls Tryz.prog 102 #[.agg #[.bool s, .slice A n c]] w fun e w' => e = .returned (.bool (decide (z = 1))) /\ Ext w w' := by
 have h1 := h.one_iff
 cases s with
 | true =>
  have hd : decide (z = 1) = false := decide_eq_false fun hz => by have := (h1.1 hz).1; cases this
  rw [hd]
  go_enter Tryz.func102, Tryz.ntmps102
  go_wp2
  go_ret
  exact ⟨rfl, (Ext.refl w).alloc _⟩
 | false =>
  by_cases hn : n = 1
  ·subst hn
   obtain ⟨xs, hl, hx, _⟩ := h.out;obtain ⟨b, off, rfl, hb, hc⟩ := hx.at_ (i := 0) (by omega);simp only [Nat.add_zero] at hc
   have hv : (decide (z = 1)) = (((xs[0]'(by omega) : Nat) : Int) == 1) := by
    by_cases hz : z = 1
    ·obtain ⟨_, _, b', off', hA, hc'⟩ := h1.1 hz
     injection hA with hA
     injection hA with e1 e2
     subst e1; subst e2;rw [hc] at hc'
     injection hc' with hc'
     injection hc' with _ hc'
     rw [hc'];simp [hz]
    ·have : ¬ ((xs[0]'(by omega) : Nat) : Int) = 1 := fun h2 => hz (h1.2 ⟨rfl, rfl, b, off, rfl, by rw [hc, h2]⟩)
     rw [decide_eq_false hz];exact (beq_eq_false_iff_ne.2 this).symm
   rw [hv];generalize (xs[0]'(by omega) : Nat) = k at hc;have hc2 := ((Ext.refl w).alloc (.cells #[.bool false, .slice (some ⟨b, off, none⟩) 1 c] 28)).cellv hc;clear h1 h hv hx hl
   go_enter Tryz.func102, Tryz.ntmps102
   go_wp2
   go_ret
   exact ⟨rfl, (Ext.refl w).alloc _⟩
  ·have hd : decide (z = 1) = false := decide_eq_false fun hz => hn (h1.1 hz).2.1
   have hn2 : ((n : Int) == 1) = false := by rw [beq_eq_false_iff_ne]; omega
   rw [hd]
   go_enter Tryz.func102, Tryz.ntmps102
   go_wp2
   go_ret
   exact ⟨rfl, (Ext.refl w).alloc _⟩
theorem p_exactT (h : NI w z L s A n c) (k : NI w y M t B m d) (hL : L <= 8000) (hM : M <= 8000) (h0 : y ≠ 0) (hd : y ∣ z) : Calls Tryz.prog 105 #[.agg #[.bool s, .slice A n c], .agg #[.bool t, .slice B m d]] w (RetNI (z / y) L w) := by
 go_enter Tryz.func105, Tryz.ntmps105
 go_upto_region 1 with (fail)
 obtain ⟨W, hW, extW, bx, by_, bz, hz⟩ := box3 w 28 28 28 #[.bool s, .slice A n c] #[.bool t, .slice B m d] #[Value.bool false, Value.slice none 0 0];rw [<- hW];clear hW;have y0 := by_.cell 0 (.bool t) rfl;have y1 := by_.cell 1 (.slice B m d) rfl
 go_wp2_with fail
 refine (p_isOneT (k.ext extW)).mono ?_;rintro e wa ⟨rfl, hx0⟩;have x0 := (bx.ext hx0).cell 0 (.bool s) rfl;have x1 := (bx.ext hx0).cell 1 (.slice A n c) rfl;have y2 := (by_.ext hx0).cell 0 (.bool t) rfl;have y3 := (by_.ext hx0).cell 1 (.slice B m d) rfl;have z0 := (bz.ext hx0).cell 0 _ rfl;have z1 := (bz.ext hx0).cell 1 _ rfl;have f0 := (bz.ext hx0).frozen 0;have f1 := (bz.ext hx0).frozen 1;clear y0 y1
 by_cases h1 : y = 1
 ·have hd1 : decide (y = 1) = true := decide_eq_true h1
  rw [hd1]
  go_wp2_with fail
  obtain ⟨b1, b2, b3, b4⟩ := fin_dual (s := s) (A := A) (n := n) (c := c) (bz.ext hx0);have r0 := b1.cell 0 (.bool s) rfl;have r1 := b1.cell 1 (.slice A n c) rfl;unfold set2 at r0 r1;refine bodyPost_ret (v := .agg #[.bool s, .slice A n c]) (by simp [results, Tryz.results105, go_sem, r0, r1]) rfl ⟨s, A, n, c, rfl, ?_, b3 _ (extW.trans hx0) (by omega)⟩;rw [h1, Int.ediv_one];exact b2 _ _ _ _ _ _ (h.ext (extW.trans hx0))
 ·have hd1 : decide (y = 1) = false := decide_eq_false h1
  rw [hd1]
  go_wp2_with fail
  refine (p_DivMod (h.ext (extW.trans hx0)) (k.ext (extW.trans hx0)) (by omega) (by omega) h0).mono ?_;rintro e wb ⟨s1, A1, n1, c1, s2, A2, n2, c2, q, r, rfl, hq, hr, hdm, hx1⟩;obtain ⟨_, hqe, hql⟩ := (dm_q_le hdm h0).2.2 hd;rw [hqe] at hq hql;have hq' := hq.tight h (by simpa using hql);clear x0 x1 y2 y3 z0 z1 f0 f1
  go_upto_region 4 with (fail)
  refine at_world (fun V => Ext W V /\ Box V wb.heap.size 28 #[.bool s1, .slice A1 n1 c1] /\ NI V (z / y) L s1 A1 n1 c1) ?_ ?_
  ·obtain ⟨e1, e2, e3⟩ := two_new wb 28 #[.bool s1, .slice A1 n1 c1] #[.bool s2, .slice A2 n2 c2]
   exact ⟨(hx0.trans hx1).trans e1, e2, hq'.ext e1⟩
  generalize wb.heap.size = g5;rintro V ⟨EV, b5, hqV⟩;have x0 := b5.cell 0 _ rfl;have x1 := b5.cell 1 _ rfl;have z0 := (bz.ext EV).cell 0 _ rfl;have z1 := (bz.ext EV).cell 1 _ rfl;have f0 := (bz.ext EV).frozen 0;have f1 := (bz.ext EV).frozen 1
  go_wp2_with fail
  obtain ⟨b1, b2, b3, b4⟩ := fin_dual (s := s1) (A := A1) (n := n1) (c := c1) (bz.ext EV);have r0 := b1.cell 0 (.bool s1) rfl;have r1 := b1.cell 1 (.slice A1 n1 c1) rfl;unfold set2 at r0 r1;refine bodyPost_ret (v := .agg #[.bool s1, .slice A1 n1 c1]) (by simp [results, Tryz.results105, go_sem, r0, r1]) rfl ⟨s1, A1, n1, c1, rfl, ?_, b3 _ (extW.trans EV) (by omega)⟩;exact b2 _ _ _ _ _ _ hqV
def noneB (zs : List Int) : Bool := zs.all fun z => decide (z = 0)
theorem p_noneT (h : IPol w A n c zs L) (hL : L <= 50000) (hn : n <= 100000) : Calls Tryz.prog 106 #[.slice A n c] w fun e w' => e = .returned (.bool (noneB zs)) /\ Ext w w' := by
 have Hlen := Lib.hid h.len
 go_enter Tryz.func106, Tryz.ntmps106
 go_wp2_with fail
 go_loopw [7] (fun i wr => ∃ k : Nat, k <= n /\ i = .int .i64 (k : Int) /\ Ext w wr /\ noneB (zs.take k) = true) (fun i _ => n - (intOf i).toNat)
 case atStart => exact ⟨0, by omega, rfl, Ext.refl _, by simp [noneB]⟩
 case round =>
  obtain ⟨k, hk, rfl, ext, hall⟩ := hrel;have HA := Lib.hid hall;clear hall
  by_cases hlt : k < n
  ·have hj : k < zs.length := by rw [Hlen.out]; exact hlt
   have hI : (k : Int) < (n : Int) := by omega
   obtain ⟨p, off, rfl, hr⟩ := h.at_ (fun e => by rw [e] at hj; exact absurd hj (Nat.not_lt_zero _));obtain ⟨sx, Ax, nx, cx, e0, e1, hx⟩ := (hr.ext ext).at_ k hj;have e0' : wr.cell? ⟨p, off + k * 2, none⟩ = some (.bool sx) := by rw [Nat.mul_comm]; exact e0
   have e1' : wr.cell? ⟨p, off + k * 2 + 1, none⟩ = some (.slice Ax nx cx) := by rw [Nat.mul_comm]; exact e1
   have HT := Lib.hid (show noneB (zs.take (k + 1)) = (noneB (zs.take k) && decide (zs[k] = 0)) by unfold noneB; rw [List.take_succ_eq_append_getElem hj, List.all_append]; simp)
   have HM := Lib.hid (fun hf : zs[k] ≠ 0 => show noneB zs = false by
    unfold noneB;rw [List.all_eq_false];exact ⟨zs[k], List.getElem_mem hj, by simpa using hf⟩)
   generalize zs[k] = r at hx HT HM
   go_upto_region 4 with (fail)
   obtain ⟨W, hW, extW, bx, hz⟩ := box1 wr 28 #[.bool sx, .slice Ax nx cx];rw [<- hW];clear hW hz e0 e1 e0' e1';replace hx := hx.ext extW;replace ext := ext.trans extW;have x0 := bx.cell 0 (.bool sx) rfl;have x1 := bx.cell 1 (.slice Ax nx cx) rfl
   by_cases hq : r = 0
   ·have HS := Lib.hid (show r.sign = 0 by rw [hq]; rfl)
    have HQ := Lib.hid hq;clear hq
    go_wp2_with fail
    refine (p_Sign hx (by omega)).mono ?_;rintro e V ⟨rfl, hxt⟩;rw [HS.out]
    go_wp2_with fail
    go_roundw
    case rel => exact ⟨k + 1, by omega, by go_num, ext.trans hxt, by rw [HT.out, HA.out, decide_eq_true HQ.out]; rfl⟩
    case measure => simp [intOf]; omega
   ·obtain ⟨S, hS, dS⟩ : ∃ S, r.sign = S /\ (S == 0) = false := ⟨_, rfl, beq_eq_false_iff_ne.2 (fun e => hq (Int.sign_eq_zero_iff_zero.1 e))⟩
    have HS := Lib.hid hS;have HQ := Lib.hid hq;clear hS hq
    go_wp2_with fail
    refine (p_Sign hx (by omega)).mono ?_;rintro e V ⟨rfl, hxt⟩;rw [HS.out]
    go_wp2_with fail
    go_ret
    exact ⟨by rw [HM.out HQ.out]; rfl, ext.trans hxt⟩
  ·have hI : (n : Int) <= (k : Int) := by omega
   go_wp2_with fail
   go_ret
   refine ⟨?_, ext⟩;have ha := HA.out;rw [List.take_of_length_le (by rw [Hlen.out]; omega)] at ha;rw [ha]; rfl
theorem IPol.drop {b o k : Nat} (h : IPol w (some ⟨b, o, Option.none⟩) n c zs L) (hk : k <= n) : IPol w (some ⟨b, o + k * 2, Option.none⟩) (n - k) (c - k) (zs.drop k) L := by
 refine ⟨by rw [List.length_drop, h.len], by have := h.cap; omega, by have := h.top; omega, fun hq => ?_⟩;obtain ⟨b', o', h1, h2⟩ := h.at_ (fun e => hq (by rw [e]; simp))
 injection h1 with h1
 injection h1 with q1 q2
 subst q1 q2;refine ⟨b, o + k * 2, rfl, ⟨fun i hi => ?_⟩⟩;rw [List.length_drop] at hi;have := h2.at_ (k + i) (by omega);rw [List.getElem_drop];rw [show o + 2 * (k + i) = o + k * 2 + 2 * i by omega] at this;exact this
theorem p_halvesT {k : Nat} (h : IPol w A n c zs L) (hk : n = k + k) (h0 : 0 < k) (hn : n <= 100000) : Calls Tryz.prog 107 #[.slice A n c] w fun e w' => ∃ A1, e = .returned (.tuple #[.slice A k c, .slice A1 k (c - k)]) /\ IPol w' A k c (zs.take k) L /\ IPol w' A1 k (c - k) (zs.drop k) L /\ Ext w w' := by
 have hc := h.cap;have ht := h.top;obtain ⟨b, off, rfl, _⟩ := h.at_ (fun e => by have := h.len; rw [e] at this; simp at this; omega);have Hh := Lib.hid (show (n : Int) / 2 = (k : Int) by omega);have Hk := Lib.hid hk;have hkn : k <= n := by omega
 have k1 : (k : Int) <= (n : Int) := by omega
 have k2 : (k : Int) <= (c : Int) := by omega
 have k3 : (n : Int) <= (c : Int) := by omega
 have k4 : ¬ c = k := by omega
 have q1 : Int.tdiv (n : Int) 2 = (k : Int) := by rw [Int.tdiv_eq_ediv_of_nonneg (by omega)]; omega
 have q2 : (n : Int) / 2 = (k : Int) := by omega
 have q3 : IntKind.i64.wrap (k : Int) = (k : Int) := IntWalk.i64_in _ (by omega);clear hk
 go_enter Tryz.func107, Tryz.ntmps107
 go_upto_region 1 with (fail)
 go_quiet (fail)
 have hs : n - k = k := by have := Hk.out; omega
 have ex := (Ext.refl w).drewN nq
 go_wp2_with fail
 refine bodyPost_ret (v := .tuple #[.slice (some ⟨b, off, Option.none⟩) k c, .slice (some ⟨b, off + k * 2, Option.none⟩) (n - k) (c - k)]) (by simp [results, Tryz.results107, go_sem]) rfl ?_;rw [hs];have hd := h.drop hkn;rw [hs] at hd;exact ⟨_, rfl, (h.take hkn).ext ex, hd.ext ex, ex⟩
end
end
end Go.Proofs.YtldeolipllejcaaGreatDoor
