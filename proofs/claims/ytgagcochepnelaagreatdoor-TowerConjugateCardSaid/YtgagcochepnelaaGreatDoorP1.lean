/- Walks and laws, a part. -/
import Derived.Test.YtgagcochepnelaaGreatDoorP0
import Derived.WalkLawsBesides
import Derived.Deep.RegionHeld3
import Derived.Deep.DrawnRows
import Derived.Deep.RegionWith
import Derived.Deep.CutBlock
import Derived.Lib.BitFns
import Derived.Lib.Tables
import Derived.Deep.DeepCutAuto
set_option linter.unusedSimpArgs false
set_option linter.unusedVariables false
set_option maxHeartbeats 64000000
namespace Go.Proofs.YtgagcochepnelaaGreatDoor
section
open Go.RowKit
theorem wpList_append_words {w0 w : World} {ops : Array Oper} {rest : List Oper} {o : Oper} {a : Act} {Q : Exit -> Act -> World -> Prop} (hgd : o.guard = none) (s x : Operand) (t : TypeId)
  (ho : o.op = .call { callee := .builtin .append, args := #[s, x], argTypes := #[t, t] }) (ht : Tryz.prog.underlying t = some (.slice 89))
  (he : Ext w0 w) (g : Nat) (hs : a.eval s = .slice (some ⟨g, 0, none⟩) 0 0) (hg : w.heap[g]? = some (.cells #[] 89 (0, 0))) (hg0 : w0.heap.size <= g)
  {A : Option Addr} {n : Nat} {xs : List Nat} {c : Nat} (hx : a.eval x = .slice A n c) (hn : xs.length = n) (hr : Rd w A xs) (hl : n <= 1000000)
  (h : ∀ A' c' w', Own w' w0.heap.size A' xs -> n <= c' -> c' <= maxLen -> Ext w0 w' -> wpList Tryz.prog ops Q rest (a.put o.dst (.slice A' n c')) w') : wpList Tryz.prog ops Q (o :: rest) a w := by
 subst hn;obtain ⟨i0, hi, hz0, hz1, hz2⟩ := info_parts Tryz.infoW;refine wpList_plain hgd fun K hK => ?_
 obtain ⟨A', c', w', hrun, h1, h2, h3, h4⟩ := run_append_words (P := Tryz.prog) t o.type i0 ht hi hz0 hz1 hz2 he g hg hg0 (c := c) hr (by omega);unfold Oper.wp execOp;simp only [ho, resolve, invoke, builtin, Sem.run_bind, Sem.run_pure, Result.andThen_ok, List.map_toArray, List.map_cons, List.map_nil, hs, hx, hrun];exact hK _ _ (h A' c' w' h1 h2 h3 h4)
theorem wpList_copy_words {w0 w : World} {ops : Array Oper} {rest : List Oper} {o : Oper} {a : Act} {Q : Exit -> Act -> World -> Prop} (hgd : o.guard = none) (d s : Operand) (dT sT : TypeId)
  (ho : o.op = .call { callee := .builtin .copy, args := #[d, s], argTypes := #[dT, sT] }) (ht : Tryz.prog.underlying dT = some (.slice 89))
  (he : Ext w0 w) (g : Nat) {zs xs : List Nat} {n m c cd : Nat} {A : Option Addr} (hd : a.eval d = .slice (some ⟨g, 0, none⟩) n cd) (hs : a.eval s = .slice A m c) (hb : BlkN w g zs) (hg0 : w0.heap.size <= g)
  (hn : n = zs.length) (hm : m = xs.length) (hr : Rd w A xs) (hl : m <= n)
  (h : ∀ w', BlkN w' g (xs ++ zs.drop xs.length) -> Ext w0 w' -> wpList Tryz.prog ops Q rest (a.put o.dst (goInt xs.length)) w') : wpList Tryz.prog ops Q (o :: rest) a w := by
 subst hn; subst hm;obtain ⟨cur, hh, htk⟩ := hb
 have hcl : zs.length <= cur.length := by
  have := congrArg List.length htk;simp at this;omega
 have hsz : (Tryz.prog.info? 89).map (·.size) = some 1 := by kernel_rfl
 refine wpList_copy_splice hgd d s dT sT ho 89 ht hsz _ _ _ _ _ _ hd hs g 0 cur 89 hh (xs.map Wd) (by rw [List.length_map]; exact (Nat.min_eq_left hl).symm) ?_ (by simp; omega) (oneCell_words xs) w0.heap.size w0 he hg0 ?_
 ·intro hp
  refine ⟨rfl, ?_⟩
  cases A with
  | none =>
   obtain ⟨b, off, he, _⟩ := hr.2 (by rintro rfl; simp at hp)
   cases he
  | some ad => exact ⟨ad, rfl, cells_of_rd hr⟩
 ·intro w' hw' hbl
  rw [List.length_map];refine h w' ⟨_, hw'.out, ?_⟩ hbl;simp only [splice, List.take_zero, List.nil_append, Nat.zero_add, List.length_map, List.length_append, List.length_drop, List.map_append];rw [List.take_append, List.length_map, show xs.length + (zs.length - xs.length) - xs.length = zs.length - xs.length by omega, List.take_of_length_le (by simp), List.map_drop, <- htk, List.drop_take]
theorem eql_nil_some (T : TypeId) (hT : Tryz.prog.underlying T = some (.slice 89)) (ad : Addr) (n c : Nat) (W : World) : (binOp .eql T (.slice (some ad) n c) (.slice none 0 0)).run Tryz.prog W = .ok (.bool false) W := by
 simp only [binOp];simp [run_equal_slice_nil W T _ (some ad) n c hT]
theorem eql_nil_none (T : TypeId) (hT : Tryz.prog.underlying T = some (.slice 89)) (n c : Nat) (W : World) : (binOp .eql T (.slice none n c) (.slice none 0 0)).run Tryz.prog W = .ok (.bool true) W := by
 simp only [binOp];simp [run_equal_slice_nil W T _ none n c hT]
section
variable (A B : Option Addr) (c d : Nat) (xs ys : List Nat) (w : World)
theorem clone {A : Option Addr} {c n : Nat} {xs : List Nat} {w : World} (hn : xs.length = n) (hx : Rd w A xs) (hl : n <= 1000000) :
  Calls Tryz.prog 127 #[.slice A n c] w (RetN (fun zs => zs = xs) w) := by
 have Hl := Lib.hid hl;clear hl
 cases A with
 | none =>
  have h0 : xs = [] := by
   rcases Classical.em (xs = []) with h | h
   ·exact h
   ·obtain ⟨b, off, he, _⟩ := hx.2 h; cases he
  subst h0;simp only [List.length_nil] at hn;subst hn;have heq := eql_nil_none 105 Tryz.underlying105 0 c
  go_enter Tryz.func127, Tryz.ntmps127
  go_wp2
  go_ret
  exact ⟨none, 0, [], rfl, ⟨W32.nil, .inl rfl⟩, by simp, by unfold maxLen; omega, rfl, Ext.refl _⟩
 | some ad =>
  have heq := eql_nil_some 105 Tryz.underlying105 ad n c
  go_enter Tryz.func127, Tryz.ntmps127
  go_wp2_with (at_builtin; refine wpList_append_words rfl _ _ _ rfl Tryz.underlying105 ((Ext.refl w).alloc _) w.heap.size rfl (heap_alloc_new w _) (Nat.le_refl _) rfl hn (hx.ext ((Ext.refl w).alloc _)) Hl.out ?_; intro A' c' w' h1 h2 h3 h4)
  go_ret
  subst hn;exact ⟨A', c', xs, rfl, h1, h2, h3, rfl, h4⟩
theorem int_add1 (hx : Rd w A xs) (hy : Rd w B ys) (hl : ys.length <= xs.length) (hm : xs.length <= 100000) :
  Calls Tryz.prog 138 #[.slice A xs.length c, .slice B ys.length d] w (RetN (fun zs => val zs = val xs + val ys /\ Nrm zs /\ zs.length <= xs.length + 1) w) := by
 have hmk := mk_words1 105 Tryz.underlying105 xs.length hm
 go_enter Tryz.func138, Tryz.ntmps138
 go_wp2_with (first | (refine wpList_copy_words (w0 := w) (xs := xs) (zs := List.replicate (xs.length + 1) 0) rfl (.tmp 17) (.tmp 18) _ _ rfl Tryz.underlying105 ((Ext.refl w).alloc _) w.heap.size rfl rfl (BlkN.new w _) (Nat.le_refl _) (by simp) rfl (hx.ext ((Ext.refl w).alloc _)) (by simp) ?_; intro w1 hb1 hext1; have hb2 := Lib.hid hb1; clear hb1) | (go_at_call 156; refine (int_addTo (pre := []) (zs0 := xs ++ (List.replicate (xs.length + 1) 0).drop xs.length) (post := []) B _ ys _ (by simpa using hb2.out) rfl (by simp) (hx.1.append ((W32.replicate _).drop _)) (hy.ext hext1) rfl (hy.apart (Nat.le_refl _)) (by omega) (by omega)).mono ?_; rintro e w2 ⟨zs, rfl, hzl, hzw, hzb, ⟨cy, hcy, hval⟩, hmod⟩; have Hzl := Lib.hid hzl; have Hval := Lib.hid hval; clear hzl hval) | (go_at_call 114; refine (int_trimN (xs := zs) Hzl.out ((by simpa using hzb : BlkN w2 w.heap.size zs).rd0 hzw) (Nat.le_refl _) (by unfold maxLen; omega)).mono ?_; rintro e w3 ⟨rfl, rfl⟩))
 go_ret
 have hz := Hzl.out;have hlen := trimL_len zs;refine ⟨_, _, trimL zs, rfl, ?_, by omega, by unfold maxLen; omega, ⟨by rw [val_trimL]; exact add_done hx.1 hy.1 hl Hval.out, Nrm.trimL _, by omega⟩, hmod.ext hext1 (Nat.le_refl _)⟩;rw [trimL_take];exact (Own.of_blk (by simpa using hzb) hzw (Nat.le_refl _)).take _
theorem int_add2 (hx : Rd w A xs) (hy : Rd w B ys) (hl : xs.length < ys.length) (hm : ys.length <= 100000) :
  Calls Tryz.prog 138 #[.slice A xs.length c, .slice B ys.length d] w (RetN (fun zs => val zs = val xs + val ys /\ Nrm zs /\ zs.length <= ys.length + 1) w) := by
 have hmk := mk_words1 105 Tryz.underlying105 ys.length hm
 go_enter Tryz.func138, Tryz.ntmps138
 go_wp2_with (first | (refine wpList_copy_words (w0 := w) (xs := ys) (zs := List.replicate (ys.length + 1) 0) rfl (.tmp 17) (.tmp 18) _ _ rfl Tryz.underlying105 ((Ext.refl w).alloc _) w.heap.size rfl rfl (BlkN.new w _) (Nat.le_refl _) (by simp) rfl (hy.ext ((Ext.refl w).alloc _)) (by simp) ?_; intro w1 hb1 hext1; have hb2 := Lib.hid hb1; clear hb1) | (go_at_call 156; refine (int_addTo (pre := []) (zs0 := ys ++ (List.replicate (ys.length + 1) 0).drop ys.length) (post := []) A _ xs _ (by simpa using hb2.out) rfl (by simp) (hy.1.append ((W32.replicate _).drop _)) (hx.ext hext1) rfl (hx.apart (Nat.le_refl _)) (by omega) (by omega)).mono ?_; rintro e w2 ⟨zs, rfl, hzl, hzw, hzb, ⟨cy, hcy, hval⟩, hmod⟩; have Hzl := Lib.hid hzl; have Hval := Lib.hid hval; clear hzl hval) | (go_at_call 114; refine (int_trimN (xs := zs) Hzl.out ((by simpa using hzb : BlkN w2 w.heap.size zs).rd0 hzw) (Nat.le_refl _) (by unfold maxLen; omega)).mono ?_; rintro e w3 ⟨rfl, rfl⟩))
 go_ret
 have hz := Hzl.out;have hlen := trimL_len zs;refine ⟨_, _, trimL zs, rfl, ?_, by omega, by unfold maxLen; omega, ⟨by rw [val_trimL]; exact (add_done hy.1 hx.1 (by omega) Hval.out).trans (Nat.add_comm _ _), Nrm.trimL _, by omega⟩, hmod.ext hext1 (Nat.le_refl _)⟩;rw [trimL_take];exact (Own.of_blk (by simpa using hzb) hzw (Nat.le_refl _)).take _
theorem int_add {A B : Option Addr} {c d n m : Nat} {xs ys : List Nat} {w : World} (hn : xs.length = n) (hm : ys.length = m) (hx : Rd w A xs) (hy : Rd w B ys) (h1 : n <= 100000) (h2 : m <= 100000) :
  Calls Tryz.prog 138 #[.slice A n c, .slice B m d] w (RetN (fun zs => val zs = val xs + val ys /\ Nrm zs /\ zs.length <= max xs.length ys.length + 1) w) := by
 subst hn; subst hm
 by_cases h : ys.length <= xs.length
 ·exact (int_add1 A B c d xs ys w hx hy h h1).mono fun e w' ⟨A', c', zs, h1, h2, h3, h4, ⟨h5, h6, h7⟩, h8⟩ => ⟨A', c', zs, h1, h2, h3, h4, ⟨h5, h6, by omega⟩, h8⟩
 ·exact (int_add2 A B c d xs ys w hx hy (by omega) h2).mono fun e w' ⟨A', c', zs, h1, h2, h3, h4, ⟨h5, h6, h7⟩, h8⟩ => ⟨A', c', zs, h1, h2, h3, h4, ⟨h5, h6, by omega⟩, h8⟩
theorem int_subtractFrom {g off n m cz : Nat} {pre zs0 post : List Nat} (hblk0 : BlkN w g (pre ++ zs0 ++ post)) (hoff : pre.length = off) (hn : zs0.length = n) (hw : W32 zs0) (hy : Rd w B ys) (hm : ys.length = m) (hap : Apart B ys g) (hl : m <= n) (hv : val ys <= val zs0) (h1 : n <= 1000000) :
  Calls Tryz.prog 159 #[.slice (some ⟨g, off, none⟩) n cz, .slice B m d] w (Turned w g pre n post fun zs => val zs + val ys = val zs0) := by
 subst hm;have Hoff := Lib.hid hoff;have Hn := Lib.hid hn;have Hv := Lib.hid hv;clear hoff hn hv
 go_enter Tryz.func159, Tryz.ntmps159
 go_wp2
 go_loopw [4, 12] (fun cr i wr => ∃ (k : Nat) (zs : List Nat) (cy : Nat), k <= ys.length /\ i = .int .i64 (k : Int) /\ cr = .int .u64 (cy : Int) /\ SubInv zs0 ys k zs cy /\ BlkN wr g (pre ++ zs ++ post) /\ Mod w wr g) (fun _ i _ => ys.length - (intOf i).toNat)
 case atStart => exact ⟨0, zs0, 0, by omega, rfl, rfl, SubInv.start hw, hblk0, Mod.refl _ _⟩
 case round =>
  obtain ⟨k, zs, cy, hk, rfl, rfl, hinv, hblk, hmod⟩ := hrel;have hcy := hinv.hbw;have hzl : n <= zs.length := by rw [hinv.len, Hn.out]; omega
  have hzl2 : zs.length <= n := by rw [hinv.len, Hn.out]; omega
  by_cases hlt : k < ys.length
  ·obtain ⟨b, off', rfl, hb, hc1⟩ := (hy.mod hmod hap).at_ hlt
   have hyk := hy.1.get hlt;obtain ⟨b2, off2, he, hb2, hc2⟩ := (hblk.mid hinv.w32 Hoff.out).at_ (i := k) (by omega)
   injection he with he
   injection he with he1 he2
   subst he1; subst he2;have hzk := hinv.w32.get (k := k) (by omega);have hfz := hblk.frozen (off + k)
   by_cases hbor : ys[k] + cy <= zs[k]
   ·go_wp2
    go_roundw
    case rel => exact ⟨k + 1, zs.set k (zs[k] - ys[k] - cy), 0, by omega, by go_num, by go_num, hinv.step (by omega) (by omega) (by omega) (by rw [getD_at hlt]; omega), hblk.setMid Hoff.out (by omega) (by go_num), hmod.setCell _ _⟩
    case measure => simp [intOf]; omega
   ·go_wp2
    go_roundw
    case rel => exact ⟨k + 1, zs.set k (zs[k] + 4294967296 - ys[k] - cy), 1, by omega, by go_num, by rw [borrow_top hzk hyk hcy hbor]; rfl, hinv.step (by omega) (by omega) (by omega) (by rw [getD_at hlt]; omega), hblk.setMid Hoff.out (by omega) (borrow_low hzk hyk hcy hbor), hmod.setCell _ _⟩
    case measure => simp [intOf]; omega
  ·have hk' : k = ys.length := by omega
   subst hk';clear hlt hk
   go_wp2
   go_loopw [4, 8] (fun cr i wr => ∃ (k : Nat) (zs : List Nat) (cy : Nat), ys.length <= k /\ k <= n /\ i = .int .i64 (k : Int) /\ cr = .int .u64 (cy : Int) /\ SubInv zs0 ys k zs cy /\ BlkN wr g (pre ++ zs ++ post) /\ Mod w wr g) (fun _ i _ => n - (intOf i).toNat)
   case atStart => exact ⟨ys.length, zs, cy, by omega, by omega, rfl, rfl, hinv, hblk, hmod⟩
   case round =>
    clear hinv hblk hmod hcy hzl hzl2;obtain ⟨k, zs, cy, hky, hk, rfl, rfl, hinv, hblk, hmod⟩ := hrel;have hcy := hinv.hbw;have hzl : n <= zs.length := by rw [hinv.len, Hn.out]; omega
    have hzl2 : zs.length <= n := by rw [hinv.len, Hn.out]; omega
    by_cases hc0 : cy = 0
    ·subst hc0
     have Hd := Lib.hid (hinv.done hky (by omega))
     go_wp2
     go_end0
     exact ⟨zs, rfl, by omega, hinv.w32, hblk, Hd.out, hmod⟩
    ·have hlt := hinv.lt hky Hv.out hc0
     obtain rfl : cy = 1 := by omega
     obtain ⟨b2, off2, he, hb2, hc2⟩ := (hblk.mid hinv.w32 Hoff.out).at_ hlt
     injection he with he
     injection he with he1 he2
     subst he1; subst he2;have hzk := hinv.w32.get hlt;have hfz := hblk.frozen (off + k)
     by_cases hbor : 1 <= zs[k]
     ·go_wp2
      go_roundw
      case rel => exact ⟨k + 1, zs.set k (zs[k] - 1), 0, by omega, by omega, by go_num, by go_num, hinv.step (by omega) (by omega) (by omega) (by rw [getD_out (by omega)]; omega), hblk.setMid Hoff.out (by omega) (by go_num), hmod.setCell _ _⟩
      case measure => simp [intOf]; omega
     ·go_wp2
      go_roundw
      case rel => exact ⟨k + 1, zs.set k (zs[k] + 4294967296 - 1), 1, by omega, by omega, by go_num, by rw [borrow_top1 hzk hbor]; rfl, hinv.step (by omega) (by omega) (by omega) (by rw [getD_out (by omega)]; omega), hblk.setMid Hoff.out (by omega) (borrow_low1 hzk hbor), hmod.setCell _ _⟩
      case measure => simp [intOf]; omega
theorem int_subtractFrom0 : Calls Tryz.prog 159 #[.slice A 0 c, .slice B 0 d] w fun e w' => e = .returned (.tuple #[]) /\ w = w' := by
 go_enter Tryz.func159, Tryz.ntmps159
 go_wp2
 go_loop [4, 12] (fun c i => c = .int .u64 0 /\ i = .int .i64 0) (fun _ _ => 0)
 case atStart => exact ⟨rfl, rfl⟩
 case round =>
  obtain ⟨rfl, rfl⟩ := hrel
  go_wp2
  go_loop [4, 8] (fun c i => c = .int .u64 0 /\ i = .int .i64 0) (fun _ _ => 0)
  case atStart => exact ⟨rfl, rfl⟩
  case round =>
   obtain ⟨rfl, rfl⟩ := hrel
   go_wp2
   go_end0
   exact ⟨rfl, rfl⟩
theorem int_subtract {A B : Option Addr} {c d n m : Nat} {xs ys : List Nat} {w : World} (hn : xs.length = n) (hm : ys.length = m) (hx : Rd w A xs) (hy : Rd w B ys) (hl : m <= n) (hv : val ys <= val xs) (h1 : n <= 100000) :
  Calls Tryz.prog 140 #[.slice A n c, .slice B m d] w (RetN (fun zs => val zs = val xs - val ys /\ Nrm zs /\ zs.length <= xs.length) w) := by
 have Hn := Lib.hid hn;have Hm := Lib.hid hm;have Hv := Lib.hid hv;clear hn hm hv
 go_enter Tryz.func140, Tryz.ntmps140
 go_wp2_with fail
 refine (clone Hn.out hx (by omega)).mono ?_;rintro e w1 ⟨A1, c1, zs1, rfl, ho1, hlc1, hcm1, rfl, hext1⟩;rw [Hn.out]
 rcases ho1.2 with rfl | ⟨g, rfl, hg, hb⟩
 ·have h0 : n = 0 := by rw [<- Hn.out]; rfl
  subst h0;have h0 : m = 0 := by omega
  subst h0;have h0 := Hm.out;have hys : ys = [] := List.eq_nil_of_length_eq_zero h0;subst hys;clear h0
  go_wp2_with fail
  refine (int_subtractFrom0 A1 B _ _ _).mono ?_;rintro e w2 ⟨rfl, rfl⟩
  go_wp2_with fail
  refine (int_trimN (xs := []) rfl (Rd.nil _ _) (by omega) hcm1).mono ?_;rintro e w3 ⟨rfl, rfl⟩
  go_wp2_with fail
  go_ret
  exact ⟨A1, c1, [], rfl, ⟨W32.nil, .inl rfl⟩, by simp, hcm1, ⟨rfl, Nrm.nil, by simp⟩, hext1⟩
 ·go_wp2_with fail
  refine (int_subtractFrom (pre := []) (zs0 := zs1) (post := []) B _ ys _ (by simpa using hb) rfl Hn.out hx.1 (hy.ext hext1) Hm.out (hy.apart hg) hl Hv.out (by omega)).mono ?_;rintro e w2 ⟨zs, rfl, hzl, hzw, hzb, hval, hmod⟩;have Hzl := Lib.hid hzl;have Hval := Lib.hid hval;clear hzl hval;simp only [List.nil_append, List.append_nil] at hzb
  go_wp2_with fail
  refine (int_trimN (xs := zs) Hzl.out (hzb.rd0 hzw) (by have := Hn.out; omega) hcm1).mono ?_;rintro e w3 ⟨rfl, rfl⟩
  go_wp2_with fail
  go_ret
  have hlen := trimL_len zs;have hz := Hzl.out;have hn := Hn.out;refine ⟨_, _, trimL zs, rfl, ?_, by omega, hcm1, ⟨by rw [val_trimL]; have := Hval.out; omega, Nrm.trimL _, by omega⟩, hmod.ext hext1 hg⟩;rw [trimL_take];exact (Own.of_blk hzb hzw hg).take _
end
def ival (b : Bool) (xs : List Nat) : Int := if b then -(val xs : Int) else (val xs : Int)
structure IsInt (z : Int) (b : Bool) (ys : List Nat) : Prop where
 w32 : W32 ys
 nrm : Nrm ys
 sgn : ys = [] -> b = false
 eq : ival b ys = z
theorem IsInt.unique {z : Int} {b b' : Bool} {ys ys' : List Nat} (h : IsInt z b ys) (k : IsInt z b' ys') : b = b' /\ ys = ys' := by
 have e := h.eq.trans k.eq.symm;have hz := h.nrm.zero;have kz := k.nrm.zero;unfold ival at e
 have hv : val ys = val ys' := by
  cases b <;> cases b' <;> simp at e <;> omega
 have hys := nrm_inj h.w32 k.w32 h.nrm k.nrm hv;refine ⟨?_, hys⟩;subst hys
 by_cases h0 : ys = []
 ·rw [h.sgn h0, k.sgn h0]
 ·have : val ys ≠ 0 := fun hh => h0 (hz.1 hh)
  cases b <;> cases b' <;> simp at e <;> first | rfl | omega
theorem IsInt.mk' {b : Bool} {ys : List Nat} (hw : W32 ys) (hn : Nrm ys) : IsInt (ival b ys) (b && !ys.isEmpty) ys := by
 refine ⟨hw, hn, ?_, ?_⟩
 ·rintro rfl; simp
 ·cases ys with
  | nil => cases b <;> simp [ival, val]
  | cons y ys => simp
theorem ival_trim (b : Bool) (xs : List Nat) : ival b (trimL xs) = ival b xs := by unfold ival; rw [val_trimL]
def RetI (z : Int) (len : Nat) (w : World) (e : Ending) (w' : World) : Prop :=
 ∃ b A c ys, e = .returned (.agg #[.bool b, .slice A ys.length c]) /\ Rd w' A ys /\ ys.length <= c /\ c <= maxLen /\ IsInt z b ys /\ ys.length <= len /\ Ext w w'
section
variable {A B : Option Addr} {c d n m : Nat} {xs ys : List Nat} {w : World} {s t : Bool}
theorem IsInt.nil (s : Bool) : IsInt (ival s []) false [] := ⟨W32.nil, Nrm.nil, fun _ => rfl, by cases s <;> rfl⟩
theorem IsInt.pos {s : Bool} {xs : List Nat} (hw : W32 xs) (hn : Nrm xs) (h : xs ≠ []) : IsInt (ival s xs) s xs := ⟨hw, hn, fun h0 => absurd h0 h, rfl⟩
attribute [local go_sem ↓] Go.wp_at_zero Go.wp_at_succ
theorem int_signed (hn : xs.length = n) (hx : Rd w A xs) (hc : n <= c) (hcm : c <= maxLen) (hnr : Nrm xs) :
  Calls Tryz.prog 112 #[.bool s, .slice A n c] w (RetI (ival s xs) xs.length w) := by
 by_cases h0 : xs = []
 ·subst h0
  simp only [List.length_nil] at hn;subst hn
  go_enter Tryz.func112, Tryz.ntmps112
  go_wp2
  exact bodyPost_ret (v := .agg #[.bool false, .slice none 0 0]) (by simp [results, Tryz.results112, go_sem]) rfl ⟨false, none, 0, [], rfl, Rd.nil _ _, by simp, by unfold maxLen; omega, IsInt.nil s, by simp, (Ext.refl w).alloc _⟩
 ·have hl : 0 < xs.length := List.length_pos_iff.2 h0
  have ht : ((n : Int) == 0) = false := by rw [beq_eq_false_iff_ne]; omega
  have Hn := Lib.hid hn;have H0 := Lib.hid h0;clear hn h0 hl
  go_enter Tryz.func112, Tryz.ntmps112
  go_wp2
  refine bodyPost_ret (v := .agg #[.bool s, .slice A n c]) (by simp [results, Tryz.results112, go_sem]) rfl ?_;have hn := Hn.out;subst hn;exact ⟨s, A, c, xs, rfl, hx.ext ((Ext.refl w).alloc _), hc, hcm, IsInt.pos hx.1 hnr H0.out, Nat.le_refl _, (Ext.refl w).alloc _⟩
theorem ref_signed (hn : xs.length = n) (hx : Rd w A xs) (hc : n <= c) (hcm : c <= maxLen) :
  Calls Tryz.prog 96 #[.bool s, .slice A n c] w (RetI (ival s xs) xs.length w) := by
 have hlen := trimL_len xs;have Hn := Lib.hid hn;clear hn;have hx1 := hx.ext ((Ext.refl w).alloc (.cells #[.bool false, .slice none 0 0] 28));have key : IsInt (ival s xs) (s && !(trimL xs).isEmpty) (trimL xs) := by rw [<- ival_trim]; exact IsInt.mk' hx.1.trimL (Nrm.trimL xs)
 have Key := Lib.hid key;clear key
 cases s with
 | false =>
  go_enter Tryz.func96, Tryz.ntmps96
  go_wp2_with (go_at_call 93; refine (ref_trimN Hn.out hx1 hc hcm).mono ?_; rintro e w1 ⟨rfl, rfl⟩)
  exact bodyPost_ret (v := .agg #[.bool false, .slice A (trimL xs).length c]) (by simp [results, Tryz.results96, go_sem]) rfl ⟨false, A, c, trimL xs, rfl, by rw [trimL_take]; exact (hx.take _).ext ((Ext.refl w).alloc _), by have := Hn.out; omega, hcm, by simpa using Key.out, hlen, (Ext.refl w).alloc _⟩
 | true =>
  by_cases h0 : 0 < (trimL xs).length
  ·have hd : decide ((0 : Int) < (trimL xs).length) = true := decide_eq_true (by omega)
   have hd2 : decide (0 < (trimL xs).length) = true := decide_eq_true (by omega)
   go_enter Tryz.func96, Tryz.ntmps96
   go_wp2_with (go_at_call 93; refine (ref_trimN Hn.out hx1 hc hcm).mono ?_; rintro e w1 ⟨rfl, rfl⟩)
   refine bodyPost_ret (v := .agg #[.bool true, .slice A (trimL xs).length c]) (by simp [results, Tryz.results96, go_sem]) rfl ⟨true, A, c, trimL xs, rfl, by rw [trimL_take]; exact (hx.take _).ext ((Ext.refl w).alloc _), by have := Hn.out; omega, hcm, ?_, hlen, (Ext.refl w).alloc _⟩;have hk := Key.out
   have he : (true && !(trimL xs).isEmpty) = true := by
    cases h : trimL xs with
    | nil => rw [h] at h0; simp at h0
    | cons => rfl
   rwa [he] at hk
  ·have hd : decide ((0 : Int) < (trimL xs).length) = false := decide_eq_false (by omega)
   have hd2 : decide (0 < (trimL xs).length) = false := decide_eq_false (by omega)
   go_enter Tryz.func96, Tryz.ntmps96
   go_wp2_with (go_at_call 93; refine (ref_trimN Hn.out hx1 hc hcm).mono ?_; rintro e w1 ⟨rfl, rfl⟩)
   refine bodyPost_ret (v := .agg #[.bool false, .slice A (trimL xs).length c]) (by simp [results, Tryz.results96, go_sem]) rfl ⟨false, A, c, trimL xs, rfl, by rw [trimL_take]; exact (hx.take _).ext ((Ext.refl w).alloc _), by have := Hn.out; omega, hcm, ?_, hlen, (Ext.refl w).alloc _⟩;have hk := Key.out
   have he : (true && !(trimL xs).isEmpty) = false := by
    have : trimL xs = [] := List.eq_nil_of_length_eq_zero (by omega);rw [this]; rfl
   rwa [he] at hk
theorem int_Norm (hn : xs.length = n) (hx : Rd w A xs) (hc : n <= c) (hcm : c <= maxLen) (h1 : n <= 100000) :
  Calls Tryz.prog 92 #[.agg #[.bool s, .slice A n c]] w (RetI (ival s xs) xs.length w) := by
 have Hn := Lib.hid hn;clear hn;have lx := trimL_len xs;have hxt : Rd w A (trimL xs) := by rw [trimL_take]; exact hx.take _
 go_enter Tryz.func92, Tryz.ntmps92
 go_upto_region 1 with (fail)
 obtain ⟨W, hW, extW, bx, bz, hz⟩ := box2 w 28 28 #[.bool s, .slice A n c] #[.bool false, .slice none 0 0];rw [<- hW];clear hW;have x0 := bx.cell 0 (.bool s) rfl;have x1 := bx.cell 1 (.slice A n c) rfl
 go_region_held3 (fun w' => w'.cell? ⟨w.heap.size, 0, none⟩ = some (.bool s) /\ w'.cell? ⟨w.heap.size, 1, none⟩ = some (.slice A n c)) (first | go_keep | (refine ⟨?_, ?_⟩ <;> first | (exact Ext.cellv (by assumption) (by assumption)) | (refine (cell_far2 (by omega)).trans ?_; assumption)))
  (first | (go_at_call 114; refine (int_trimN Hn.out (hx.ext (by first | exact extW | exact extW.drew)) hc hcm).mono ?_; rintro e w1 ⟨rfl, rfl⟩) | (go_at_call 127; refine (clone rfl (hxt.ext (by first | exact extW | exact extW.drew)) (by have := Hn.out; omega)).mono ?_; rintro e w2 ⟨A2, c2, zs, rfl, ho2, hc2, hm2, rfl, hext2⟩) | (go_at_call 112; refine (int_signed rfl ho2.rd hc2 hm2 (Nrm.trimL _)).mono ?_; rintro e w3 ⟨b3, A3, c3, rs, rfl, hr3, hc3, hm3, hi3, hl3, hext3⟩; have ext3 := ((Ext.refl W).drew.trans hext2).trans hext3; have bz3 := bz.ext ext3; have z0 := bz3.cell 0 (.bool false) rfl; have z1 := bz3.cell 1 (.slice none 0 0) rfl; have f0 := bz3.frozen 0; have f1 := bz3.frozen 1))
 go_wp2_with fail
 obtain ⟨r1, r2, r3, r4⟩ := fin_pair (b := b3) (n := rs.length) (c := c3) (extW.trans ext3) (by omega) bz3 hr3;exact bodyPost_ret (v := .agg #[.bool b3, .slice A3 rs.length c3]) (by simp [results, Tryz.results92, go_sem, r3, r4]) rfl ⟨b3, A3, c3, rs, rfl, r1, hc3, hm3, by rw [ival_trim] at hi3; exact hi3, by omega, r2⟩
end
theorem tab_nat : ∀ n : Fin 256, (Lib.len8tab[n.val]'(by rw [Lib.len8tab_size]; exact n.2)).toNat = Lib.bitLen n.val := by decide +kernel
theorem tab_at (y : Int) (h : y.toNat < Lib.len8tab.size) : ((Lib.len8tab[y.toNat]'h).toNat : Int) = (Lib.bitLen y.toNat : Int) := by
 have hs := Lib.len8tab_size;exact congrArg Int.ofNat (tab_nat ⟨y.toNat, by omega⟩)
theorem tab_sum (y : Int) (h : y.toNat < Lib.len8tab.size) (k : Int) (hk : 0 <= k /\ k <= 56) (X : Nat) (hX : (Lib.bitLen X : Int) = k + (Lib.bitLen y.toNat : Int)) : wrap64 (k + wrap64 ((Lib.len8tab[y.toNat]'h).toNat : Int)) = (Lib.bitLen X : Int) := by
 have hs := Lib.len8tab_size;have hl := Lib.bitLen_le8 ⟨y.toNat, by omega⟩;rw [tab_at, hX];simp only at hl;generalize Lib.bitLen y.toNat = l at *;have e1 : wrap64 (l : Int) = l := IntWalk.wrap64_in _ (by omega);rw [e1];exact IntWalk.wrap64_in _ (by omega)
theorem sh8 (x : Nat) (h : 256 <= x) (hx : x < 18446744073709551616) : (Lib.bitLen x : Int) = 8 + (Lib.bitLen (x / 256) : Int) := by have := Lib.bitLen_shift8 x h hx; omega
theorem sh16 (x : Nat) (h : 65536 <= x) (hx : x < 18446744073709551616) : (Lib.bitLen x : Int) = 16 + (Lib.bitLen (x / 65536) : Int) := by have := Lib.bitLen_shift16 x h hx; omega
theorem sh24 (x : Nat) (h : 16777216 <= x) (hx : x < 18446744073709551616) : (Lib.bitLen x : Int) = 24 + (Lib.bitLen (x / 16777216) : Int) := by have := Lib.bitLen_shift24 x h hx; omega
theorem sh32 (x : Nat) (h : 4294967296 <= x) (hx : x < 18446744073709551616) : (Lib.bitLen x : Int) = 32 + (Lib.bitLen (x / 4294967296) : Int) := by have := Lib.bitLen_shift32 x h hx; omega
theorem sh40 (x : Nat) (h : 1099511627776 <= x) (hx : x < 18446744073709551616) : (Lib.bitLen x : Int) = 40 + (Lib.bitLen (x / 1099511627776) : Int) := by have := Lib.bitLen_shift40 x h hx; omega
theorem sh48 (x : Nat) (h : 281474976710656 <= x) (hx : x < 18446744073709551616) : (Lib.bitLen x : Int) = 48 + (Lib.bitLen (x / 281474976710656) : Int) := by have := Lib.bitLen_shift48 x h hx; omega
theorem sh56 (x : Nat) (h : 72057594037927936 <= x) (hx : x < 18446744073709551616) : (Lib.bitLen x : Int) = 56 + (Lib.bitLen (x / 72057594037927936) : Int) := by have := Lib.bitLen_shift56 x h hx; omega
set_option maxRecDepth 100000 in
theorem len32 (x : Int) (w : World) (h0 : 0 <= x) (h1 : x <= 4294967295) : Calls Tryz.prog 160 #[.int .u32 x] w fun e w' => e = .returned (.int .i64 (Lib.bitLen x.toNat)) /\ w = w' := by
 have hs : (256 : Int) <= (Lib.len8tab.size : Int) := by rw [Lib.len8tab_size]; exact Int.le_refl _
 go_enter Tryz.func160, Tryz.ntmps160
 go_wp2
 all_goals go_ret
 all_goals (refine ⟨ret_int ?_, rfl⟩)
 ·exact tab_sum _ _ 24 (by omega) _ (by rw [sh24 x.toNat (by omega) (by omega), show (x / 65536 / 256).toNat = x.toNat / 16777216 by omega])
 ·exact tab_sum _ _ 16 (by omega) _ (by rw [sh16 x.toNat (by omega) (by omega), show (x / 65536).toNat = x.toNat / 65536 by omega])
 ·exact tab_sum _ _ 8 (by omega) _ (by rw [sh8 x.toNat (by omega) (by omega), show (x / 256).toNat = x.toNat / 256 by omega])
 ·have := tab_sum x (by omega) 0 (by omega) x.toNat (by omega)
  rwa [Int.zero_add] at this
set_option maxRecDepth 100000 in
theorem len64 (x : Int) (w : World) (h0 : 0 <= x) (h1 : x <= 18446744073709551615) : Calls Tryz.prog 161 #[.int .u64 x] w fun e w' => e = .returned (.int .i64 (Lib.bitLen x.toNat)) /\ w = w' := by
 have hs : (256 : Int) <= (Lib.len8tab.size : Int) := by rw [Lib.len8tab_size]; exact Int.le_refl _
 go_enter Tryz.func161, Tryz.ntmps161
 go_wp2
 all_goals go_ret
 all_goals (refine ⟨ret_int ?_, rfl⟩)
 ·exact tab_sum _ _ 56 (by omega) _ (by rw [sh56 x.toNat (by omega) (by omega), show (x / 4294967296 / 65536 / 256).toNat = x.toNat / 72057594037927936 by omega])
 ·exact tab_sum _ _ 48 (by omega) _ (by rw [sh48 x.toNat (by omega) (by omega), show (x / 4294967296 / 65536).toNat = x.toNat / 281474976710656 by omega])
 ·exact tab_sum _ _ 40 (by omega) _ (by rw [sh40 x.toNat (by omega) (by omega), show (x / 4294967296 / 256).toNat = x.toNat / 1099511627776 by omega])
 ·exact tab_sum _ _ 32 (by omega) _ (by rw [sh32 x.toNat (by omega) (by omega), show (x / 4294967296).toNat = x.toNat / 4294967296 by omega])
 ·exact tab_sum _ _ 24 (by omega) _ (by rw [sh24 x.toNat (by omega) (by omega), show (x / 65536 / 256).toNat = x.toNat / 16777216 by omega])
 ·exact tab_sum _ _ 16 (by omega) _ (by rw [sh16 x.toNat (by omega) (by omega), show (x / 65536).toNat = x.toNat / 65536 by omega])
 ·exact tab_sum _ _ 8 (by omega) _ (by rw [sh8 x.toNat (by omega) (by omega), show (x / 256).toNat = x.toNat / 256 by omega])
 ·have := tab_sum x (by omega) 0 (by omega) x.toNat (by omega)
  rwa [Int.zero_add] at this
theorem lenU (x : Int) (w : World) (h0 : 0 <= x) (h1 : x <= 18446744073709551615) : Calls Tryz.prog 144 #[.int .u64 x] w fun e w' => e = .returned (.int .i64 (Lib.bitLen x.toNat)) /\ w = w' := by
 have h1' := Lib.hid h1;clear h1
 go_enter Tryz.func144, Tryz.ntmps144
 go_wp2_with (go_at_call 161; refine (len64 _ _ h0 h1'.out).mono ?_; rintro e w' ⟨rfl, rfl⟩)
 go_ret
 exact ⟨rfl, rfl⟩
theorem lz32 (x : Int) (w : World) (h0 : 0 <= x) (h1 : x <= 4294967295) : Calls Tryz.prog 175 #[.int .u32 x] w fun e w' => e = .returned (.int .i64 (32 - (Lib.bitLen x.toNat : Int))) /\ w = w' := by
 have hb := Lib.bitLen_le x.toNat 32 (by omega) (by omega)
 go_enter Tryz.func175, Tryz.ntmps175
 go_wp2_with (go_at_call 160; refine (len32 _ _ h0 h1).mono ?_; rintro e w' ⟨rfl, rfl⟩)
 go_ret
 exact ⟨rfl, rfl⟩
theorem val_pair (a b : Nat) : val [a, b] = a + 4294967296 * b := by simp [val]
theorem W32.pair {a b : Nat} (ha : a < 4294967296) (hb : b < 4294967296) : W32 [a, b] := W32.cons ha (W32.one hb)
theorem or_zero {a : Nat} (ha : a < 4294967296) : bits .or .u64 0 (a : Int) = (a : Int) := by
 have := u64_or_nat 0 a (by omega) (by omega);rw [Nat.zero_or] at this;exact this
theorem or_high {a b : Nat} (ha : a < 4294967296) (hb : b < 4294967296) : bits .or .u64 (a : Int) ((b : Int) * 4294967296) = ((a + 4294967296 * b : Nat) : Int) := by
 have e : (b : Int) * 4294967296 = ((b * 4294967296 : Nat) : Int) := by rw [Int.natCast_mul]; rfl
 rw [e];rw [u64_or_nat a (b * 4294967296) (by omega) (by omega)];have := Nat.two_pow_add_eq_or_of_lt (i := 32) (show a < 2 ^ 32 by omega) b;rw [Nat.or_comm, Nat.mul_comm b, Nat.add_comm a];exact congrArg Int.ofNat this.symm
section
variable {A B : Option Addr} {c d n m : Nat} {xs ys : List Nat} {w : World} {s t : Bool}
theorem int_fromUint (x : Nat) (hx : x / 4294967296 < 4294967296) : Calls Tryz.prog 126 #[.int .u64 (x : Int)] w (RetN (fun zs => val zs = x /\ Nrm zs /\ zs.length <= 2) w) := by
 have hb := BlkN.lit w [x % 4294967296, x / 4294967296 % 4294967296] #[.int .u32 ((x : Int) % 4294967296), .int .u32 ((x : Int) / 4294967296 % 4294967296)] (by simp [Wd]);have hw : W32 [x % 4294967296, x / 4294967296 % 4294967296] := W32.pair (by omega) (by omega);have Hx := Lib.hid hx;clear hx;have hext := (Ext.refl w).alloc (.cells #[.int .u32 ((x : Int) % 4294967296), .int .u32 ((x : Int) / 4294967296 % 4294967296)] 89)
 go_enter Tryz.func126, Tryz.ntmps126
 go_wp2_with fail
 refine (int_trimN (xs := [x % 4294967296, x / 4294967296 % 4294967296]) rfl (hb.rd0 hw) (Nat.le_refl _) (by simp [maxLen])).mono ?_;rintro e w' ⟨rfl, rfl⟩
 go_wp2_with fail
 go_ret
 have hlen := trimL_len [x % 4294967296, x / 4294967296 % 4294967296];simp only [List.length_cons, List.length_nil] at hlen;refine ⟨_, _, trimL [x % 4294967296, x / 4294967296 % 4294967296], rfl, ?_, by omega, by unfold maxLen; omega, ⟨by rw [val_trimL, val_pair]; have := Hx.out; omega, Nrm.trimL _, by omega⟩, hext⟩;rw [trimL_take];exact (Own.of_blk hb hw (Nat.le_refl _)).take _
theorem ref_words (x : Nat) (hx : x / 4294967296 < 4294967296) : Calls Tryz.prog 121 #[.int .u64 (x : Int)] w (RetN (fun zs => val zs = x /\ Nrm zs /\ zs.length <= 2) w) := by
 have hb := BlkN.lit w [x % 4294967296, x / 4294967296 % 4294967296] #[.int .u32 ((x : Int) % 4294967296), .int .u32 ((x : Int) / 4294967296 % 4294967296)] (by simp [Wd]);have hw : W32 [x % 4294967296, x / 4294967296 % 4294967296] := W32.pair (by omega) (by omega);have Hx := Lib.hid hx;clear hx;have hext := (Ext.refl w).alloc (.cells #[.int .u32 ((x : Int) % 4294967296), .int .u32 ((x : Int) / 4294967296 % 4294967296)] 89)
 go_enter Tryz.func121, Tryz.ntmps121
 go_wp2_with fail
 refine (ref_trimN (xs := [x % 4294967296, x / 4294967296 % 4294967296]) rfl (hb.rd0 hw) (Nat.le_refl _) (by simp [maxLen])).mono ?_;rintro e w' ⟨rfl, rfl⟩
 go_wp2_with fail
 go_ret
 have hlen := trimL_len [x % 4294967296, x / 4294967296 % 4294967296];simp only [List.length_cons, List.length_nil] at hlen;refine ⟨_, _, trimL [x % 4294967296, x / 4294967296 % 4294967296], rfl, ?_, by omega, by unfold maxLen; omega, ⟨by rw [val_trimL, val_pair]; have := Hx.out; omega, Nrm.trimL _, by omega⟩, hext⟩;rw [trimL_take];exact (Own.of_blk hb hw (Nat.le_refl _)).take _
theorem int_toUint (hn : xs.length = n) (hx : Rd w A xs) (h2 : n <= 2) : Calls Tryz.prog 153 #[.slice A n c] w fun e w' => e = .returned (.int .u64 (val xs)) /\ w = w' := by
 subst hn
 match xs, h2 with
 | [], _ =>
  go_enter Tryz.func153, Tryz.ntmps153
  go_wp2
  go_loop [3, 8] (fun v i => i = .int .i64 0 /\ v = .int .u64 0) (fun _ _ => 0)
  case atStart => exact ⟨rfl, rfl⟩
  case round =>
   obtain ⟨rfl, rfl⟩ := hrel
   go_wp2
   go_ret
   exact ⟨rfl, rfl⟩
 | [a], _ =>
  obtain ⟨b, off, rfl, hb, hc⟩ := hx.2 (by simp);have hc0 := hc 0 (by simp);simp only [Nat.add_zero, List.getElem_cons_zero] at hc0;have ha := hx.1 a (by simp);clear hc
  go_enter Tryz.func153, Tryz.ntmps153
  go_wp2
  go_loop [3, 8] (fun v i => (i = .int .i64 0 /\ v = .int .u64 0) \/ (i = .int .i64 1 /\ v = .int .u64 (a : Int))) (fun _ i => 1 - (intOf i).toNat)
  case atStart => exact .inl ⟨rfl, rfl⟩
  case round =>
   rcases hrel with ⟨rfl, rfl⟩ | ⟨rfl, rfl⟩
   ·go_wp2
    exact ⟨.inr ⟨rfl, congrArg (Value.int .u64) (or_zero ha)⟩, by simp [intOf]⟩
   ·go_wp2
    go_ret
    exact ⟨by simp [val], rfl⟩
 | [a, a2], _ =>
  obtain ⟨b, off, rfl, hb, hc⟩ := hx.2 (by simp);have hc0 := hc 0 (by simp);have hc1 := hc 1 (by simp);simp only [Nat.add_zero, List.getElem_cons_zero, List.getElem_cons_succ] at hc0 hc1;have ha := hx.1 a (by simp);have ha2 := hx.1 a2 (by simp);clear hc
  go_enter Tryz.func153, Tryz.ntmps153
  go_wp2
  go_loop [3, 8] (fun v i => (i = .int .i64 0 /\ v = .int .u64 0) \/ (i = .int .i64 1 /\ v = .int .u64 (a : Int)) \/ (i = .int .i64 2 /\ v = .int .u64 (val [a, a2] : Nat))) (fun _ i => 2 - (intOf i).toNat)
  case atStart => exact .inl ⟨rfl, rfl⟩
  case round =>
   rcases hrel with ⟨rfl, rfl⟩ | ⟨rfl, rfl⟩ | ⟨rfl, rfl⟩
   ·go_wp2
    exact ⟨.inr (.inl ⟨rfl, congrArg (Value.int .u64) (or_zero ha)⟩), by simp [intOf]⟩
   ·go_wp2
    exact ⟨.inr (.inr ⟨rfl, congrArg (Value.int .u64) ((or_high ha ha2).trans (by rw [val_pair]))⟩), by simp [intOf]⟩
   ·go_wp2
    go_ret
    exact ⟨rfl, rfl⟩
theorem neg_wrap {j : Nat} (hj : j <= 9223372036854775808) : IntKind.u64.wrap (-IntKind.u64.wrap (-(j : Int))) = (j : Int) := by
 rw [IntKind.wrap_u64, IntKind.wrap_u64]; omega
theorem int_FromInt (k : Int) (h0 : -9223372036854775808 <= k) (h1 : k < 9223372036854775808) : Calls Tryz.prog 90 #[.int .i64 k] w (RetI k 2 w) := by
 by_cases hk : k < 0
 ·skip
  obtain ⟨j, hj⟩ : ∃ j : Nat, k = -(j : Int) := ⟨k.natAbs, by omega⟩;have hneg := neg_wrap (j := j) (by omega);have hj2 : j / 4294967296 < 4294967296 := by omega
  subst hj
  skip
  have Hneg := Lib.hid hneg;clear hneg
  go_enter Tryz.func90, Tryz.ntmps90
  go_wp2_with fail
  rw [Hneg.out];refine (int_fromUint (w := w.alloc (.cells #[.bool false, .slice none 0 0] 28)) j hj2).mono ?_;rintro e w2 ⟨A2, c2, zs, rfl, ho2, hc2, hm2, ⟨hv2, hn2, hl2⟩, hext2⟩;have Hv2 := Lib.hid hv2;clear hv2
  go_wp2_with fail
  refine (int_signed rfl ho2.rd hc2 hm2 hn2).mono ?_;rintro e w3 ⟨b3, A3, c3, rs, rfl, hr3, hc3, hm3, hi3, hl3, hext3⟩;have ext3 := hext2.trans hext3;have bz := Box.new w 28 #[.bool false, .slice none 0 0];have bz3 := bz.ext ext3;have z0 := bz3.cell 0 (.bool false) rfl;have z1 := bz3.cell 1 (.slice none 0 0) rfl;have f0 := bz3.frozen 0;have f1 := bz3.frozen 1
  go_wp2_with fail
  obtain ⟨r1, r2, r3, r4⟩ := fin_pair (b := b3) (n := rs.length) (c := c3) (((Ext.refl w).alloc _).trans ext3) (Nat.le_refl _) bz3 hr3;exact bodyPost_ret (v := .agg #[.bool b3, .slice A3 rs.length c3]) (by simp [results, Tryz.results90, go_sem, r3, r4]) rfl ⟨b3, A3, c3, rs, rfl, r1, hc3, hm3, by have h := Hv2.out; unfold ival at hi3; rw [h] at hi3; simpa using hi3, by omega, r2⟩
 ·skip
  obtain ⟨j, hj⟩ : ∃ j : Nat, k = (j : Int) := ⟨k.toNat, by omega⟩;have hj2 : j / 4294967296 < 4294967296 := by omega
  subst hj
  skip
  skip
  skip
  go_enter Tryz.func90, Tryz.ntmps90
  go_wp2_with fail
  skip
  refine (int_fromUint (w := w.alloc (.cells #[.bool false, .slice none 0 0] 28)) j hj2).mono ?_;rintro e w2 ⟨A2, c2, zs, rfl, ho2, hc2, hm2, ⟨hv2, hn2, hl2⟩, hext2⟩;have Hv2 := Lib.hid hv2;clear hv2
  go_wp2_with fail
  refine (int_signed rfl ho2.rd hc2 hm2 hn2).mono ?_;rintro e w3 ⟨b3, A3, c3, rs, rfl, hr3, hc3, hm3, hi3, hl3, hext3⟩;have ext3 := hext2.trans hext3;have bz := Box.new w 28 #[.bool false, .slice none 0 0];have bz3 := bz.ext ext3;have z0 := bz3.cell 0 (.bool false) rfl;have z1 := bz3.cell 1 (.slice none 0 0) rfl;have f0 := bz3.frozen 0;have f1 := bz3.frozen 1
  go_wp2_with fail
  obtain ⟨r1, r2, r3, r4⟩ := fin_pair (b := b3) (n := rs.length) (c := c3) (((Ext.refl w).alloc _).trans ext3) (Nat.le_refl _) bz3 hr3;exact bodyPost_ret (v := .agg #[.bool b3, .slice A3 rs.length c3]) (by simp [results, Tryz.results90, go_sem, r3, r4]) rfl ⟨b3, A3, c3, rs, rfl, r1, hc3, hm3, by have h := Hv2.out; unfold ival at hi3; rw [h] at hi3; simpa using hi3, by omega, r2⟩
theorem ref_FromInt (k : Int) (h0 : -9223372036854775808 <= k) (h1 : k < 9223372036854775808) : Calls Tryz.prog 82 #[.int .i64 k] w (RetI k 2 w) := by
 by_cases hk : k < 0
 ·skip
  obtain ⟨j, hj⟩ : ∃ j : Nat, k = -(j : Int) := ⟨k.natAbs, by omega⟩;have hneg := neg_wrap (j := j) (by omega);have hj2 : j / 4294967296 < 4294967296 := by omega
  subst hj
  skip
  have Hneg := Lib.hid hneg;clear hneg
  go_enter Tryz.func82, Tryz.ntmps82
  go_wp2_with fail
  rw [Hneg.out];refine (ref_words (w := w.alloc (.cells #[.bool false, .slice none 0 0] 28)) j hj2).mono ?_;rintro e w2 ⟨A2, c2, zs, rfl, ho2, hc2, hm2, ⟨hv2, hn2, hl2⟩, hext2⟩;have Hv2 := Lib.hid hv2;clear hv2
  go_wp2_with fail
  refine (ref_signed rfl ho2.rd hc2 hm2).mono ?_;rintro e w3 ⟨b3, A3, c3, rs, rfl, hr3, hc3, hm3, hi3, hl3, hext3⟩;have ext3 := hext2.trans hext3;have bz := Box.new w 28 #[.bool false, .slice none 0 0];have bz3 := bz.ext ext3;have z0 := bz3.cell 0 (.bool false) rfl;have z1 := bz3.cell 1 (.slice none 0 0) rfl;have f0 := bz3.frozen 0;have f1 := bz3.frozen 1
  go_wp2_with fail
  obtain ⟨r1, r2, r3, r4⟩ := fin_pair (b := b3) (n := rs.length) (c := c3) (((Ext.refl w).alloc _).trans ext3) (Nat.le_refl _) bz3 hr3;exact bodyPost_ret (v := .agg #[.bool b3, .slice A3 rs.length c3]) (by simp [results, Tryz.results82, go_sem, r3, r4]) rfl ⟨b3, A3, c3, rs, rfl, r1, hc3, hm3, by have h := Hv2.out; unfold ival at hi3; rw [h] at hi3; simpa using hi3, by omega, r2⟩
 ·skip
  obtain ⟨j, hj⟩ : ∃ j : Nat, k = (j : Int) := ⟨k.toNat, by omega⟩;have hj2 : j / 4294967296 < 4294967296 := by omega
  subst hj
  skip
  skip
  skip
  go_enter Tryz.func82, Tryz.ntmps82
  go_wp2_with fail
  skip
  refine (ref_words (w := w.alloc (.cells #[.bool false, .slice none 0 0] 28)) j hj2).mono ?_;rintro e w2 ⟨A2, c2, zs, rfl, ho2, hc2, hm2, ⟨hv2, hn2, hl2⟩, hext2⟩;have Hv2 := Lib.hid hv2;clear hv2
  go_wp2_with fail
  refine (ref_signed rfl ho2.rd hc2 hm2).mono ?_;rintro e w3 ⟨b3, A3, c3, rs, rfl, hr3, hc3, hm3, hi3, hl3, hext3⟩;have ext3 := hext2.trans hext3;have bz := Box.new w 28 #[.bool false, .slice none 0 0];have bz3 := bz.ext ext3;have z0 := bz3.cell 0 (.bool false) rfl;have z1 := bz3.cell 1 (.slice none 0 0) rfl;have f0 := bz3.frozen 0;have f1 := bz3.frozen 1
  go_wp2_with fail
  obtain ⟨r1, r2, r3, r4⟩ := fin_pair (b := b3) (n := rs.length) (c := c3) (((Ext.refl w).alloc _).trans ext3) (Nat.le_refl _) bz3 hr3;exact bodyPost_ret (v := .agg #[.bool b3, .slice A3 rs.length c3]) (by simp [results, Tryz.results82, go_sem, r3, r4]) rfl ⟨b3, A3, c3, rs, rfl, r1, hc3, hm3, by have h := Hv2.out; unfold ival at hi3; rw [h] at hi3; simpa using hi3, by omega, r2⟩
end
end
section
open Go.RowKit
attribute [local go_sem ↓] Go.wp_at_zero Go.wp_at_succ
theorem ival_not (b : Bool) (xs : List Nat) : ival (!b) xs = -(ival b xs) := by cases b <;> simp [ival]
theorem IsInt.zero {z : Int} {b : Bool} {ys : List Nat} (h : IsInt z b ys) : ys = [] ↔ z = 0 := by
 have hz := h.nrm.zero;have e := h.eq;unfold ival at e
 constructor
 ·intro h0
  have := hz.2 h0
  cases b <;> simp at e <;> omega
 ·intro h0
  refine hz.1 ?_
  cases b <;> simp at e <;> omega
theorem IsInt.neg {z : Int} {b : Bool} {ys : List Nat} (h : IsInt z b ys) : b = decide (z < 0) := by
 have hz := h.nrm.zero;have e := h.eq;unfold ival at e
 cases b with
 | false => simp at e; rw [eq_comm, decide_eq_false_iff_not]; omega
 | true =>
  have : ys ≠ [] := fun h0 => by have := h.sgn h0; cases this
  have : val ys ≠ 0 := fun h0 => this (hz.1 h0)
  simp at e; rw [eq_comm, decide_eq_true_iff]; omega
theorem ival_sign (s : Bool) (xs : List Nat) : (ival s xs).sign = if trimL xs = [] then 0 else if s = true then -1 else 1 := by
 have hz := (Nrm.trimL xs).zero;rw [val_trimL] at hz
 by_cases h : trimL xs = []
 ·have := hz.2 h
  rw [if_pos h];unfold ival
  cases s <;> simp [this]
 ·have : val xs ≠ 0 := fun h0 => h (hz.1 h0)
  rw [if_neg h];unfold ival
  cases s
  ·simp; omega
  ·simp; omega
section
variable {A B : Option Addr} {c d n m : Nat} {xs ys : List Nat} {w : World} {s t : Bool}
theorem ref_Norm (hn : xs.length = n) (hx : Rd w A xs) (hc : n <= c) (hcm : c <= maxLen) (_h1 : n <= 100000) :
  Calls Tryz.prog 94 #[.agg #[.bool s, .slice A n c]] w (RetI (ival s xs) xs.length w) := by
 have Hn := Lib.hid hn;clear hn;have lx := trimL_len xs;have hxt : Rd w A (trimL xs) := by rw [trimL_take]; exact hx.take _
 go_enter Tryz.func94, Tryz.ntmps94
 go_upto_region 1 with (fail)
 obtain ⟨W, hW, extW, bx, bz, hz⟩ := box2 w 28 28 #[.bool s, .slice A n c] #[.bool false, .slice none 0 0];rw [<- hW];clear hW;have x0 := bx.cell 0 (.bool s) rfl;have x1 := bx.cell 1 (.slice A n c) rfl
 go_wp2_with (go_at_call 96; refine (ref_signed Hn.out (hx.ext extW) hc hcm).mono ?_; rintro e w3 ⟨b3, A3, c3, rs, rfl, hr3, hc3, hm3, hi3, hl3, hext3⟩; have ext3 := hext3; have bz3 := bz.ext ext3; have z0 := bz3.cell 0 (.bool false) rfl; have z1 := bz3.cell 1 (.slice none 0 0) rfl; have f0 := bz3.frozen 0; have f1 := bz3.frozen 1)
 go_wp2_with fail
 obtain ⟨r1, r2, r3, r4⟩ := fin_pair (b := b3) (n := rs.length) (c := c3) (extW.trans ext3) (by omega) bz3 hr3;exact bodyPost_ret (v := .agg #[.bool b3, .slice A3 rs.length c3]) (by simp [results, Tryz.results94, go_sem, r3, r4]) rfl ⟨b3, A3, c3, rs, rfl, r1, hc3, hm3, hi3, by omega, r2⟩
theorem int_Neg (hn : xs.length = n) (hx : Rd w A xs) (hc : n <= c) (hcm : c <= maxLen) (h1 : n <= 100000) :
  Calls Tryz.prog 119 #[.agg #[.bool s, .slice A n c]] w (RetI (-(ival s xs)) xs.length w) := by
 have Hn := Lib.hid hn;clear hn;have lx := trimL_len xs;have hxt : Rd w A (trimL xs) := by rw [trimL_take]; exact hx.take _
 go_enter Tryz.func119, Tryz.ntmps119
 go_upto_region 1 with (fail)
 obtain ⟨W, hW, extW, bx, bz, hz⟩ := box2 w 28 28 #[.bool s, .slice A n c] #[.bool false, .slice none 0 0];rw [<- hW];clear hW;have x0 := bx.cell 0 (.bool s) rfl;have x1 := bx.cell 1 (.slice A n c) rfl
 go_region_held3 (fun w' => w'.cell? ⟨w.heap.size, 0, none⟩ = some (.bool s) /\ w'.cell? ⟨w.heap.size, 1, none⟩ = some (.slice A n c)) (first | (go_split_ands; refine ⟨?_, ?_⟩ <;> first | (exact Ext.cellv (by assumption) (by assumption)) | (refine (cell_far2 (by omega)).trans ?_; assumption)) | go_keep)
  (first | (go_at_call 114; refine (int_trimN Hn.out (hx.ext (by first | exact extW | exact extW.drew | exact extW.drewN _ | exact (extW.drew).drew)) hc hcm).mono ?_; rintro e w1 ⟨rfl, rfl⟩) | (go_at_call 127; refine (clone rfl (hxt.ext (by first | exact extW | exact extW.drew | exact extW.drewN _ | exact (extW.drew).drew)) (by have := Hn.out; omega)).mono ?_; rintro e w2 ⟨A2, c2, zs, rfl, ho2, hc2, hm2, rfl, hext2⟩) | (go_at_call 112; refine (int_signed rfl ho2.rd hc2 hm2 (Nrm.trimL _)).mono ?_; rintro e w3 ⟨b3, A3, c3, rs, rfl, hr3, hc3, hm3, hi3, hl3, hext3⟩; have ext3 := ((Ext.refl W).drew.trans hext2).trans hext3; have bz3 := bz.ext ext3; have z0 := bz3.cell 0 (.bool false) rfl; have z1 := bz3.cell 1 (.slice none 0 0) rfl; have f0 := bz3.frozen 0; have f1 := bz3.frozen 1))
 go_wp2_with fail
 obtain ⟨r1, r2, r3, r4⟩ := fin_pair (b := b3) (n := rs.length) (c := c3) (extW.trans ext3) (by omega) bz3 hr3;exact bodyPost_ret (v := .agg #[.bool b3, .slice A3 rs.length c3]) (by simp [results, Tryz.results119, go_sem, r3, r4]) rfl ⟨b3, A3, c3, rs, rfl, r1, hc3, hm3, by rw [ival_trim, ival_not] at hi3; exact hi3, by omega, r2⟩
theorem int_Sign (hn : xs.length = n) (hx : Rd w A xs) (hc : n <= c) (hcm : c <= maxLen) (_h1 : n <= 100000) :
  Calls Tryz.prog 72 #[.agg #[.bool s, .slice A n c]] w fun e w' => e = .returned (.int .i64 (ival s xs).sign) /\ Ext w w' := by
 have Hn := Lib.hid hn;clear hn;have lx := trimL_len xs;have hxt : Rd w A (trimL xs) := by rw [trimL_take]; exact hx.take _
 have hsg := Lib.hid (ival_sign s xs)
 by_cases h0 : trimL xs = []
 ·have hl : (trimL xs).length = 0 := by rw [h0]; rfl
  have ht : (((trimL xs).length : Int) == 0) = true := by rw [beq_iff_eq]; omega
  have H0 := Lib.hid h0;clear h0 hl
  go_enter Tryz.func72, Tryz.ntmps72
  go_upto_region 1 with (fail)
  obtain ⟨W, hW, extW, bx, hz⟩ := box1 w 28 #[.bool s, .slice A n c];rw [<- hW];clear hW;have x0 := bx.cell 0 (.bool s) rfl;have x1 := bx.cell 1 (.slice A n c) rfl
  go_wp2_with (go_at_call 114; refine (int_trimN Hn.out (hx.ext extW) hc hcm).mono ?_; rintro e w1 ⟨rfl, rfl⟩)
  go_ret
  exact ⟨ret_int (by rw [hsg.out, if_pos H0.out]), extW⟩
 ·have hl : (trimL xs).length ≠ 0 := fun h => h0 (List.eq_nil_of_length_eq_zero h)
  have ht : (((trimL xs).length : Int) == 0) = false := by rw [beq_eq_false_iff_ne]; omega
  have H0 := Lib.hid h0;clear h0 hl
  cases s
  all_goals
   go_enter Tryz.func72, Tryz.ntmps72
   go_upto_region 1 with (fail)
   obtain ⟨W, hW, extW, bx, hz⟩ := box1 w 28 #[.bool _, .slice A n c];rw [<- hW];clear hW;have x0 := bx.cell 0 (.bool _) rfl;have x1 := bx.cell 1 (.slice A n c) rfl
   go_wp2_with (go_at_call 114; refine (int_trimN Hn.out (hx.ext extW) hc hcm).mono ?_; rintro e w1 ⟨rfl, rfl⟩)
   go_ret
   exact ⟨ret_int (by rw [hsg.out, if_neg H0.out]; rfl), extW⟩
end
theorem at_world {P : Program} {c : Code} {Q : Exit -> Act -> World -> Prop} {a : Act} {w : World} (C : World -> Prop) (h : C w) (k : ∀ W, C W -> Code.wp P c Q a W) : Code.wp P c Q a w := k w h
theorem at_then {K : Act -> World -> Prop} {Q : Exit -> Act -> World -> Prop} {e : Exit} {a : Act} {w : World} (C : World -> Prop) (h : C w) (k : ∀ W, C W -> Exit.then K Q e a W) : Exit.then K Q e a w := k w h
theorem IsInt.nn {z : Int} {ys : List Nat} (h : IsInt z false ys) : 0 <= z := by have := h.eq; unfold ival at this; simp at this; omega
theorem IsInt.np {z : Int} {ys : List Nat} (h : IsInt z true ys) : z < 0 := by
 have := h.neg;have := of_decide_eq_true this.symm;exact this
theorem IsInt.sgn0 {z : Int} {b : Bool} (h : IsInt z b []) : z.sign = 0 := by
 have := h.zero.1 rfl;rw [this]; rfl
theorem IsInt.sgn1 {z : Int} {x : Nat} {xs : List Nat} (h : IsInt z false (x :: xs)) : z.sign = 1 := by
 have h0 : z ≠ 0 := fun h0 => by have := h.zero.2 h0; cases this
 have := h.nn;exact Int.sign_eq_one_of_pos (by omega)
theorem IsInt.sgn2 {z : Int} {x : Nat} {xs : List Nat} (h : IsInt z true (x :: xs)) : z.sign = -1 := Int.sign_eq_neg_one_of_neg h.np
theorem far_ne {g h i : Nat} (hne : g ≠ h) : g ≠ (⟨h, i, none⟩ : Addr).block := hne
theorem cmpI_of_lt {a b : Nat} (h : a < b) : cmpI a b = -1 := by simp [cmpI, h]
theorem cmpI_of_eq {a b : Nat} (h : a = b) : cmpI a b = 0 := by rw [h]; exact cmpI_self b
theorem cmpI_of_gt {a b : Nat} (h : b < a) : cmpI a b = 1 := by simp [cmpI, h, Nat.lt_asymm h]
theorem len_le {xs ys : List Nat} (hy : W32 ys) (nx : Nrm xs) (h : val xs <= val ys) : xs.length <= ys.length := by
 rcases Nat.lt_or_ge ys.length xs.length with hl | hl
 ·have := val_lt_of_len hy nx hl; omega
 ·exact hl
section
variable {A B : Option Addr} {c d n m : Nat} {xs ys : List Nat} {w : World} {s t : Bool}
theorem ref_Sign (hn : xs.length = n) (hx : Rd w A xs) (hc : n <= c) (hcm : c <= maxLen) (h1 : n <= 100000) :
  Calls Tryz.prog 54 #[.agg #[.bool s, .slice A n c]] w fun e w' => e = .returned (.int .i64 (ival s xs).sign) /\ Ext w w' := by
 go_enter Tryz.func54, Tryz.ntmps54
 go_upto_region 1 with (fail)
 obtain ⟨W, hW, extW, bx, hz⟩ := box1 w 28 #[.bool s, .slice A n c];rw [<- hW];clear hW;have x0 := bx.cell 0 (.bool s) rfl;have x1 := bx.cell 1 (.slice A n c) rfl;have hf0 := bx.frozen 0;have hf1 := bx.frozen 1
 go_wp2_with fail
 refine (ref_Norm hn (hx.ext extW) hc hcm h1).mono ?_;rintro e w3 ⟨b3, A3, c3, rs, rfl, hr3, hc3, hm3, hi3, hl3, hext3⟩;have bx3 := bx.ext hext3;have z0 := bx3.cell 0 (.bool s) rfl;have z1 := bx3.cell 1 (.slice A n c) rfl;have f0 := bx3.frozen 0;have f1 := bx3.frozen 1;have hfin := fin_pair (b := b3) (n := rs.length) (c := c3) (extW.trans hext3) (Nat.le_refl _) bx3 hr3;have Hfin := Lib.hid hfin;clear hfin bx bx3 x0 x1 hf0 hf1 hn
 cases rs with
 | nil =>
  go_wp2_with fail
  go_ret
  exact ⟨ret_int hi3.sgn0.symm, Hfin.out.2.1⟩
 | cons r rs' =>
  cases b3 with
  | false =>
   go_wp2_with fail
   go_ret
   exact ⟨ret_int hi3.sgn1.symm, Hfin.out.2.1⟩
  | true =>
   go_wp2_with fail
   go_ret
   exact ⟨ret_int hi3.sgn2.symm, Hfin.out.2.1⟩
theorem int_Add (hn : xs.length = n) (hm : ys.length = m) (hx : Rd w A xs) (hy : Rd w B ys) (hc : n <= c) (hcm : c <= maxLen) (hd : m <= d) (hdm : d <= maxLen) (h1 : n <= 100000) (h2 : m <= 100000) :
  Calls Tryz.prog 99 #[.agg #[.bool s, .slice A n c], .agg #[.bool t, .slice B m d]] w (RetI (ival s xs + ival t ys) (max xs.length ys.length + 1) w) := by
 have Hn := Lib.hid hn;have Hm := Lib.hid hm;clear hn hm;have lx := trimL_len xs;have ly := trimL_len ys;have hxt : Rd w A (trimL xs) := by rw [trimL_take]; exact hx.take _
 have hyt : Rd w B (trimL ys) := by rw [trimL_take]; exact hy.take _
 go_enter Tryz.func99, Tryz.ntmps99
 go_upto_region 1 with (fail)
 obtain ⟨W, hW, extW, bx, by_, bz, hz⟩ := box3 w 28 28 28 #[.bool s, .slice A n c] #[.bool t, .slice B m d] #[.bool false, .slice none 0 0];rw [<- hW];clear hW;have x0 := bx.cell 0 (.bool s) rfl;have x1 := bx.cell 1 (.slice A n c) rfl;have y0 := by_.cell 0 (.bool t) rfl;have y1 := by_.cell 1 (.slice B m d) rfl
 go_quiet (first | (go_at_call_of 114 A; exact quiet_left (int_trimN Hn.out (hx.ext (extW.drewN _)) hc hcm)) | (go_at_call_of 114 B; exact quiet_left (int_trimN Hm.out (hy.ext (extW.drewN _)) hd hdm)))
 refine at_then (fun N => Ext w N /\ Box N w.heap.size 28 #[.bool s, .slice A n c] /\ Box N (w.heap.size + 1) 28 #[.bool t, .slice B m d] /\ Box N (w.heap.size + 1 + 1) 28 #[.bool false, .slice none 0 0] /\ w.heap.size + 3 <= N.heap.size) ⟨extW.drewN _, bx.ext ((Ext.refl _).drewN _), by_.ext ((Ext.refl _).drewN _), bz.ext ((Ext.refl _).drewN _), hz⟩ ?_;clear x0 x1 y0 y1 extW bx by_ bz hz;rintro N ⟨extN, bx, by_, bz, hz⟩;have x0 := bx.cell 0 (.bool s) rfl;have y0 := by_.cell 0 (.bool t) rfl;have cst : Hid (True) := trivial
 cases hst : (s == t) with
 | true =>
  have Hv := Lib.hid (rfl : val (trimL xs) = val (trimL xs));have hv0 := Lib.hid (rfl : val (trimL ys) = val (trimL ys))
  go_wp2_with fail
  go_region_held3 (fun w' => w'.cell? ⟨w.heap.size, 0, none⟩ = some (.bool s)) (first | (first | (exact Ext.cellv (by assumption) (by assumption)) | (refine (cell_far2 (by omega)).trans ?_; assumption)) | go_keep)
   (first | (go_at_call 138; refine (int_add rfl rfl (hxt.ext (by first | exact extN | exact extN.drew | exact extN.drewN _)) (hyt.ext (by first | exact extN | exact extN.drew | exact extN.drewN _)) (by have := Hn.out; omega) (by have := Hm.out; omega)).mono ?_; rintro e w2 ⟨A2, c2, zs, rfl, ho2, hc2, hm2, ⟨hv2, hn2, hl2⟩, hext2⟩; have Hv2 := Lib.hid hv2; clear hv2) | (go_at_call 112; refine (int_signed rfl ho2.rd hc2 hm2 hn2).mono ?_; rintro e w3 ⟨b3, A3, c3, rs, rfl, hr3, hc3, hm3, hi3, hl3, hext3⟩; have ext3 := ((Ext.refl N).drew.trans hext2).trans hext3; have bz3 := bz.ext ext3; have z0 := bz3.cell 0 (.bool false) rfl; have z1 := bz3.cell 1 (.slice none 0 0) rfl; have f0 := bz3.frozen 0; have f1 := bz3.frozen 1))
  go_wp2_with fail
  obtain ⟨r1, r2, r3, r4⟩ := fin_pair (b := b3) (n := rs.length) (c := c3) (extN.trans ext3) (by omega) bz3 hr3;refine bodyPost_ret (v := .agg #[.bool b3, .slice A3 rs.length c3]) (by simp [results, Tryz.results99, go_sem, r3, r4]) rfl ⟨b3, A3, c3, rs, rfl, r1, hc3, hm3, ?_, by omega, r2⟩
  have e : ival s zs = ival s xs + ival t ys := by
   have h := Hv2.out;rw [val_trimL, val_trimL] at h;have hst' : s = t := by simpa using hst
   subst hst';unfold ival
   cases s <;> simp <;> omega
  rw [<- e];exact hi3
 | false =>
  rcases Nat.lt_trichotomy (val (trimL xs)) (val (trimL ys)) with hlt | hlt | hlt
  ·have hcm1 := Lib.hid (show cmpL (trimL xs) (trimL ys) = (-1) by rw [cmpL_nrm hxt.1 hyt.1 (Nrm.trimL xs) (Nrm.trimL ys)]; exact cmpI_of_lt hlt)
   have hle := len_le hyt.1 (Nrm.trimL xs) (Nat.le_of_lt hlt);have Hlt := Lib.hid hlt;clear hlt
   go_wp2_with fail
   refine (int_compare A B c d (trimL xs) (trimL ys) N (hxt.ext extN) (hyt.ext extN) (by have := Hn.out; unfold maxLen; omega) (by have := Hm.out; unfold maxLen; omega)).mono ?_;rintro e w1 ⟨rfl, hext1⟩;rw [hcm1.out];replace extN := extN.trans hext1;replace bx := bx.ext hext1;replace by_ := by_.ext hext1;replace bz := bz.ext hext1;clear x0 y0 hext1;have x0 := bx.cell 0 (.bool s) rfl;have y0 := by_.cell 0 (.bool t) rfl
   go_wp2_with fail
   go_region_held3 (fun w' => w'.cell? ⟨w.heap.size + 1, 0, none⟩ = some (.bool t)) (first | (first | (exact Ext.cellv (by assumption) (by assumption)) | (refine (cell_far2 (by omega)).trans ?_; assumption)) | go_keep)
    (first | (go_at_call 140; refine (int_subtract rfl rfl (hyt.ext (by first | exact extN | exact extN.drew | exact extN.drewN _)) (hxt.ext (by first | exact extN | exact extN.drew | exact extN.drewN _)) hle (Nat.le_of_lt Hlt.out) (by have := Hm.out; omega)).mono ?_; rintro e w2 ⟨A2, c2, zs, rfl, ho2, hc2, hm2, ⟨hv2, hn2, hl2⟩, hext2⟩; have Hv2 := Lib.hid hv2; clear hv2) | (go_at_call 112; refine (int_signed rfl ho2.rd hc2 hm2 hn2).mono ?_; rintro e w3 ⟨b3, A3, c3, rs, rfl, hr3, hc3, hm3, hi3, hl3, hext3⟩; have ext3 := ((Ext.refl w1).drew.trans hext2).trans hext3; have bz3 := bz.ext ext3; have z0 := bz3.cell 0 (.bool false) rfl; have z1 := bz3.cell 1 (.slice none 0 0) rfl; have f0 := bz3.frozen 0; have f1 := bz3.frozen 1))
   go_wp2_with fail
   obtain ⟨r1, r2, r3, r4⟩ := fin_pair (b := b3) (n := rs.length) (c := c3) (extN.trans ext3) (by omega) bz3 hr3;refine bodyPost_ret (v := .agg #[.bool b3, .slice A3 rs.length c3]) (by simp [results, Tryz.results99, go_sem, r3, r4]) rfl ⟨b3, A3, c3, rs, rfl, r1, hc3, hm3, ?_, by omega, r2⟩
   have e : ival t zs = ival s xs + ival t ys := by
    have h := Hv2.out;have h' := Hlt.out;rw [val_trimL, val_trimL] at h h';unfold ival
    cases s <;> cases t <;> simp at hst <;> simp <;> omega
   rw [<- e];exact hi3
  ·have hcm1 := Lib.hid (show cmpL (trimL xs) (trimL ys) = 0 by rw [cmpL_nrm hxt.1 hyt.1 (Nrm.trimL xs) (Nrm.trimL ys)]; exact cmpI_of_eq hlt)
   have hle := len_le hxt.1 (Nrm.trimL ys) (by omega);have Hlt := Lib.hid hlt;clear hlt
   go_wp2_with fail
   refine (int_compare A B c d (trimL xs) (trimL ys) N (hxt.ext extN) (hyt.ext extN) (by have := Hn.out; unfold maxLen; omega) (by have := Hm.out; unfold maxLen; omega)).mono ?_;rintro e w1 ⟨rfl, hext1⟩;rw [hcm1.out];replace extN := extN.trans hext1;replace bx := bx.ext hext1;replace by_ := by_.ext hext1;replace bz := bz.ext hext1;clear x0 y0 hext1;have x0 := bx.cell 0 (.bool s) rfl;have y0 := by_.cell 0 (.bool t) rfl
   go_wp2_with fail
   go_region_held3 (fun w' => w'.cell? ⟨w.heap.size, 0, none⟩ = some (.bool s)) (first | (first | (exact Ext.cellv (by assumption) (by assumption)) | (refine (cell_far2 (by omega)).trans ?_; assumption)) | go_keep)
    (first | (go_at_call 140; refine (int_subtract rfl rfl (hxt.ext (by first | exact extN | exact extN.drew | exact extN.drewN _)) (hyt.ext (by first | exact extN | exact extN.drew | exact extN.drewN _)) hle (by have := Hlt.out; omega) (by have := Hn.out; omega)).mono ?_; rintro e w2 ⟨A2, c2, zs, rfl, ho2, hc2, hm2, ⟨hv2, hn2, hl2⟩, hext2⟩; have Hv2 := Lib.hid hv2; clear hv2) | (go_at_call 112; refine (int_signed rfl ho2.rd hc2 hm2 hn2).mono ?_; rintro e w3 ⟨b3, A3, c3, rs, rfl, hr3, hc3, hm3, hi3, hl3, hext3⟩; have ext3 := ((Ext.refl w1).drew.trans hext2).trans hext3; have bz3 := bz.ext ext3; have z0 := bz3.cell 0 (.bool false) rfl; have z1 := bz3.cell 1 (.slice none 0 0) rfl; have f0 := bz3.frozen 0; have f1 := bz3.frozen 1))
   go_wp2_with fail
   obtain ⟨r1, r2, r3, r4⟩ := fin_pair (b := b3) (n := rs.length) (c := c3) (extN.trans ext3) (by omega) bz3 hr3;refine bodyPost_ret (v := .agg #[.bool b3, .slice A3 rs.length c3]) (by simp [results, Tryz.results99, go_sem, r3, r4]) rfl ⟨b3, A3, c3, rs, rfl, r1, hc3, hm3, ?_, by omega, r2⟩
   have e : ival s zs = ival s xs + ival t ys := by
    have h := Hv2.out;have h' := Hlt.out;rw [val_trimL, val_trimL] at h h';unfold ival
    cases s <;> cases t <;> simp at hst <;> simp <;> omega
   rw [<- e];exact hi3
  ·have hcm1 := Lib.hid (show cmpL (trimL xs) (trimL ys) = 1 by rw [cmpL_nrm hxt.1 hyt.1 (Nrm.trimL xs) (Nrm.trimL ys)]; exact cmpI_of_gt hlt)
   have hle := len_le hxt.1 (Nrm.trimL ys) (by omega);have Hlt := Lib.hid hlt;clear hlt
   go_wp2_with fail
   refine (int_compare A B c d (trimL xs) (trimL ys) N (hxt.ext extN) (hyt.ext extN) (by have := Hn.out; unfold maxLen; omega) (by have := Hm.out; unfold maxLen; omega)).mono ?_;rintro e w1 ⟨rfl, hext1⟩;rw [hcm1.out];replace extN := extN.trans hext1;replace bx := bx.ext hext1;replace by_ := by_.ext hext1;replace bz := bz.ext hext1;clear x0 y0 hext1;have x0 := bx.cell 0 (.bool s) rfl;have y0 := by_.cell 0 (.bool t) rfl
   go_wp2_with fail
   go_region_held3 (fun w' => w'.cell? ⟨w.heap.size, 0, none⟩ = some (.bool s)) (first | (first | (exact Ext.cellv (by assumption) (by assumption)) | (refine (cell_far2 (by omega)).trans ?_; assumption)) | go_keep)
    (first | (go_at_call 140; refine (int_subtract rfl rfl (hxt.ext (by first | exact extN | exact extN.drew | exact extN.drewN _)) (hyt.ext (by first | exact extN | exact extN.drew | exact extN.drewN _)) hle (by have := Hlt.out; omega) (by have := Hn.out; omega)).mono ?_; rintro e w2 ⟨A2, c2, zs, rfl, ho2, hc2, hm2, ⟨hv2, hn2, hl2⟩, hext2⟩; have Hv2 := Lib.hid hv2; clear hv2) | (go_at_call 112; refine (int_signed rfl ho2.rd hc2 hm2 hn2).mono ?_; rintro e w3 ⟨b3, A3, c3, rs, rfl, hr3, hc3, hm3, hi3, hl3, hext3⟩; have ext3 := ((Ext.refl w1).drew.trans hext2).trans hext3; have bz3 := bz.ext ext3; have z0 := bz3.cell 0 (.bool false) rfl; have z1 := bz3.cell 1 (.slice none 0 0) rfl; have f0 := bz3.frozen 0; have f1 := bz3.frozen 1))
   go_wp2_with fail
   obtain ⟨r1, r2, r3, r4⟩ := fin_pair (b := b3) (n := rs.length) (c := c3) (extN.trans ext3) (by omega) bz3 hr3;refine bodyPost_ret (v := .agg #[.bool b3, .slice A3 rs.length c3]) (by simp [results, Tryz.results99, go_sem, r3, r4]) rfl ⟨b3, A3, c3, rs, rfl, r1, hc3, hm3, ?_, by omega, r2⟩
   have e : ival s zs = ival s xs + ival t ys := by
    have h := Hv2.out;have h' := Hlt.out;rw [val_trimL, val_trimL] at h h';unfold ival
    cases s <;> cases t <;> simp at hst <;> simp <;> omega
   rw [<- e];exact hi3
end
end
section
theorem mul_word {x w : Nat} (hx : x < 4294967296) (hw : w < 4294967296) : x * w <= 18446744065119617025 := by
 have : x * w <= 4294967295 * 4294967295 := Nat.mul_le_mul (by omega) (by omega);omega
theorem mul_word_int {x w : Nat} (hx : x < 4294967296) (hw : w < 4294967296) : (x : Int) * (w : Int) <= 18446744065119617025 /\ 0 <= (x : Int) * (w : Int) := by
 have h := mul_word hx hw;have e : ((x * w : Nat) : Int) = (x : Int) * (w : Int) := Int.natCast_mul x w;omega
theorem u64_div (a : Nat) {x : Int} (h : x = a) : Value.int .u64 (x / 4294967296) = .int .u64 ((a / 4294967296 : Nat) : Int) := by
 subst h; rw [Int.natCast_ediv]; rfl
theorem u32_mod (a : Nat) {x : Int} (h : x = a) : x % 4294967296 = ((a % 4294967296 : Nat) : Int) := by
 subst h; omega
theorem cast_mac (a x q z : Nat) : (a : Int) + ((x : Int) * (q : Int) + (z : Int)) = ((a + (x * q + z) : Nat) : Int) := by
 rw [Int.natCast_add, Int.natCast_add, Int.natCast_mul]
structure MulInv (zs0 xs : List Nat) (w k : Nat) (zs : List Nat) (cy : Nat) : Prop where
 len : zs.length = zs0.length
 w32 : W32 zs
 hcy : cy < 4294967296
 rest : zs.drop k = zs0.drop k
 eq : val (zs.take k) + 4294967296 ^ k * cy = val (zs0.take k) + val (xs.take k) * w
theorem MulInv.start {zs0 xs : List Nat} {w : Nat} (h : W32 zs0) : MulInv zs0 xs w 0 zs0 0 := ⟨rfl, h, by omega, rfl, by simp [val]⟩
theorem MulInv.at_ {zs0 xs zs : List Nat} {w k cy : Nat} (h : MulInv zs0 xs w k zs cy) (hk : k < zs.length) : zs[k] = zs0.getD k 0 := by
 have := congrArg (fun l : List Nat => l.getD 0 0) h.rest;simp only [List.getD, List.getElem?_drop, Nat.add_zero] at this;rw [List.getElem?_eq_getElem hk] at this
 simpa [List.getD] using this
theorem mul_step_eq {p cy x w z a b c s : Nat} (h : a + p * cy = b + c * w) (hs : s = cy + (x * w + z)) : a + p * s = b + p * z + (c + p * x) * w := by
 subst hs;rw [Nat.mul_add, Nat.mul_add, Nat.add_mul, Nat.mul_assoc p x w];omega
theorem MulInv.step {zs0 xs zs : List Nat} {w k cy : Nat} (h : MulInv zs0 xs w k zs cy) (hx : W32 xs) (hw : w < 4294967296) (hk : k < zs.length) (hkx : k < xs.length) {s : Nat} (hs : s = cy + (xs[k] * w + zs[k])) :
  MulInv zs0 xs w (k + 1) (zs.set k (s % 4294967296)) (s / 4294967296) := by
 have h1 := h.w32.get hk;have h2 := mul_word (hx.get hkx) hw;have h3 := h.hcy;refine ⟨by simpa using h.len, h.w32.set _ (Nat.mod_lt _ (by omega)), ?_, ?_, ?_⟩
 ·generalize xs[k] * w = q at *
  omega
 ·rw [drop_set_succ, <- List.drop_drop, h.rest, List.drop_drop]
 ·rw [val_take_set _ hk, val_take_getD zs0, val_take_getD xs, Nat.add_assoc, pow_carry, <- h.at_ hk, getD_at hkx]
  exact mul_step_eq h.eq hs
theorem MulInv.done {zs0 xs zs : List Nat} {w cy : Nat} (h : MulInv zs0 xs w xs.length zs cy) (hl : xs.length <= zs.length) :
  val zs + 4294967296 ^ xs.length * cy = val zs0 + val xs * w := by
 have e := h.eq;rw [List.take_of_length_le (l := xs) (Nat.le_refl _)] at e;have e1 := val_split zs xs.length hl;have e2 := val_split zs0 xs.length (by have := h.len; omega);rw [h.rest] at e1;omega
theorem mul_tail {zs zs0 zt xs : List Nat} {w cy c2 n : Nat} (hn : zs.length = n) (h : val zs + 4294967296 ^ xs.length * cy = val zs0 + val xs * w) (hl : xs.length <= n)
  (ht : val zt + 4294967296 ^ (n - xs.length) * c2 = val (zs.drop xs.length) + cy) (hf : val zs0 + val xs * w < 4294967296 ^ n) : val (zs.take xs.length ++ zt) = val zs0 + val xs * w := by
 rw [val_append, List.length_take, Nat.min_eq_left (by omega)];have e1 := val_split zs xs.length (by omega);have hp : 4294967296 ^ n = 4294967296 ^ xs.length * 4294967296 ^ (n - xs.length) := by rw [<- Nat.pow_add]; congr 1; omega
 rw [hp] at hf;generalize 4294967296 ^ xs.length = p at *;generalize 4294967296 ^ (n - xs.length) = q at *;generalize val zs0 + val xs * w = S at *;have e : p * (val zt + q * c2) = p * (val (zs.drop xs.length) + cy) := by rw [ht]
 rw [Nat.mul_add, Nat.mul_add, <- Nat.mul_assoc] at e
 cases c2 with
 | zero => rw [Nat.mul_zero] at e; omega
 | succ c =>
  rw [Nat.mul_succ] at e;generalize p * q * c = r at *;omega
theorem no_carry {zs zs0 xs : List Nat} {w cy n : Nat} (_hn : zs.length = n) (h : val zs + 4294967296 ^ xs.length * cy = val zs0 + val xs * w) (hl : n <= xs.length) (hf : val zs0 + val xs * w < 4294967296 ^ n) : cy = 0 := by
 have : 4294967296 ^ n <= 4294967296 ^ xs.length := Nat.pow_le_pow_right (by omega) hl;generalize 4294967296 ^ xs.length = p at *
 cases cy with
 | zero => rfl
 | succ c =>
  rw [Nat.mul_succ] at h;generalize p * c = r at *;omega
theorem prod_fits {zs zs0 xs ys : List Nat} {k n : Nat} (hk : k < ys.length) (hkn : k <= n) (hn : zs.length = n) (h : val zs = val zs0 + val xs * val (ys.take k)) (hf : val zs0 + val xs * val ys < 4294967296 ^ n) :
  val (zs.drop k) + val xs * ys[k] < 4294967296 ^ (n - k) := by
 have e1 := val_split zs k (by omega);have e2 := val_split ys (k + 1) (by omega);rw [val_take_succ ys k hk] at e2;have hp : 4294967296 ^ n = 4294967296 ^ k * 4294967296 ^ (n - k) := by rw [<- Nat.pow_add]; congr 1; omega
 rw [hp, e2, Nat.mul_add, Nat.mul_add] at hf;refine Nat.lt_of_mul_lt_mul_left (a := 4294967296 ^ k) ?_;rw [Nat.mul_add, <- Nat.mul_assoc, Nat.mul_comm (4294967296 ^ k) (val xs), Nat.mul_assoc];omega
theorem prod_step {zs zs0 zt xs ys : List Nat} {k n : Nat} (hk : k < ys.length) (hkn : k <= n) (hn : zs.length = n) (h : val zs = val zs0 + val xs * val (ys.take k)) (ht : val zt = val (zs.drop k) + val xs * ys[k]) :
  val (zs.take k ++ zt) = val zs0 + val xs * val (ys.take (k + 1)) := by
 rw [val_append, List.length_take, Nat.min_eq_left (by omega), ht, val_take_succ ys k hk, Nat.mul_add, Nat.mul_add];have e1 := val_split zs k (by omega);rw [<- Nat.mul_assoc, Nat.mul_comm (4294967296 ^ k) (val xs), Nat.mul_assoc];omega
theorem prod_lt {xs ys : List Nat} (hx : W32 xs) (hy : W32 ys) : val xs * val ys < 4294967296 ^ (xs.length + ys.length) := by
 rw [Nat.pow_add];exact Nat.mul_lt_mul'' (val_lt hx) (val_lt hy)
/-! the school's product, row by row -/
theorem mid_split (zs : List Nat) (i m : Nat) : zs.take i ++ (zs.drop i).take m ++ zs.drop (i + m) = zs := by
 rw [List.append_assoc, <- List.drop_drop, List.take_append_drop, List.take_append_drop]
theorem times_step {zs mid xs ys : List Nat} {i m cy : Nat} (hi : i < xs.length) (hz : i + m < zs.length) (hy : ys.length = m) (hl : mid.length = m) (h : val (zs.take (i + m)) = val (xs.take i) * val ys)
  (he : val mid + 4294967296 ^ m * cy = val ((zs.drop i).take m) + val ys * xs[i]) :
  val (((zs.take i ++ mid ++ zs.drop (i + m)).set (i + m) cy).take (i + 1 + m)) = val (xs.take (i + 1)) * val ys := by
 have hli : (zs.take i).length = i := by rw [List.length_take]; omega
 have hlen : (zs.take i ++ mid).length = i + m := by rw [List.length_append, hli, hl]
 rw [show i + 1 + m = i + m + 1 by omega, val_take_set _ (by rw [List.length_append, hlen, List.length_drop]; omega), List.take_left' hlen, val_append, hli, val_take_succ xs i hi, Nat.add_mul, <- h];have e : zs.take (i + m) = zs.take i ++ (zs.drop i).take m := by rw [List.take_add]
 rw [e, val_append, hli, Nat.pow_add, Nat.mul_assoc, Nat.add_assoc, <- Nat.mul_add, he, Nat.mul_add, Nat.mul_comm (val ys) xs[i]];rw [Nat.mul_assoc, Nat.add_assoc]
theorem times_start {zs ys : List Nat} {m : Nat} (h : ∀ x ∈ zs, x = 0) : val (zs.take (0 + m)) = val (List.take 0 ([] : List Nat)) * val ys := by
 have : ∀ l : List Nat, (∀ x ∈ l, x = 0) -> val l = 0 := by
  intro l hl
  induction l with
  | nil => rfl
  | cons x l ih => simp only [val]; rw [hl x (by simp), ih (fun y hy => hl y (by simp [hy]))]
 rw [this _ (fun x hx => h x (List.mem_of_mem_take hx))];simp [val]
theorem cast_mac2 (a x q z : Nat) : (a : Int) + (z : Int) + (x : Int) * (q : Int) = ((a + (q * x + z) : Nat) : Int) := by
 rw [Int.natCast_add, Int.natCast_add, Int.natCast_mul, Int.mul_comm]; omega
end
section
open Go.RowKit
theorem Mod.alloc {a w : World} {g : Nat} (h : Mod a w g) (o : Obj) : Mod a (w.alloc o) g := h.trans (((Ext.refl w).alloc o).mod g)
theorem split_mid (pre zs post : List Nat) (m : Nat) : pre ++ zs ++ post = (pre ++ zs.take m) ++ zs.drop m ++ post := by
 rw [List.append_assoc pre (zs.take m), List.take_append_drop]
section
variable {A B : Option Addr} {c d m : Nat} {xs ys : List Nat} {w : World}
theorem int_addMultiple {g off n cz : Nat} {pre zs0 post : List Nat} {q : Nat} (hblk0 : BlkN w g (pre ++ zs0 ++ post)) (hoff : pre.length = off) (hn : zs0.length = n) (hw : W32 zs0) (hx : Rd w A xs) (hm : xs.length = m) (hap : Apart A xs g)
  (hl : m <= n) (hq : q < 4294967296) (hf : val zs0 + val xs * q < 4294967296 ^ n) (h1 : n <= 1000000) (hcz : n <= cz) (hczm : cz <= maxLen) :
  Calls Tryz.prog 162 #[.slice (some ⟨g, off, none⟩) n cz, .slice A m c, .int .u32 (q : Int)] w (Turned w g pre n post fun zs => val zs = val zs0 + val xs * q) := by
 unfold maxLen at hczm;have Hoff := Lib.hid hoff;have Hn := Lib.hid hn;have Hm := Lib.hid hm;have Hf := Lib.hid hf;clear hoff hn hm hf
 go_enter Tryz.func162, Tryz.ntmps162
 go_wp2
 go_loopw [6, 16] (fun cr i wr => ∃ (k : Nat) (zs : List Nat) (cy : Nat), k <= m /\ i = .int .i64 (k : Int) /\ cr = .int .u64 (cy : Int) /\ MulInv zs0 xs q k zs cy /\ BlkN wr g (pre ++ zs ++ post) /\ Mod w wr g) (fun _ i _ => m - (intOf i).toNat)
 case atStart => exact ⟨0, zs0, 0, by omega, rfl, rfl, MulInv.start hw, hblk0, Mod.refl _ _⟩
 case round =>
  obtain ⟨k, zs, cy, hk, rfl, rfl, hinv, hblk, hmod⟩ := hrel;have hcy := hinv.hcy;have hzl : n <= zs.length := by rw [hinv.len, Hn.out]; omega
  have hzl2 : zs.length <= n := by rw [hinv.len, Hn.out]; omega
  have hxl : m <= xs.length := by rw [Hm.out]; omega
  have hxl2 : xs.length <= m := by rw [Hm.out]; omega
  by_cases hlt : k < m
  ·obtain ⟨b, off', rfl, hb, hc1⟩ := (hx.mod hmod hap).at_ (i := k) (by omega)
   have hxk := hx.1.get (k := k) (by omega);obtain ⟨b2, off2, he, hb2, hc2⟩ := (hblk.mid hinv.w32 Hoff.out).at_ (i := k) (by omega)
   injection he with he
   injection he with he1 he2
   subst he1; subst he2;have hzk := hinv.w32.get (k := k) (by omega);have hfz := hblk.frozen (off + k);have hmi := (mul_word_int hxk hq).1;have hmj := (mul_word_int hxk hq).2
   go_wp2
   go_roundw
   case rel => exact ⟨k + 1, _, (cy + (xs[k] * q + zs[k])) / 4294967296, by omega, by go_num, u64_div _ (cast_mac _ _ _ _), hinv.step hx.1 hq (by omega) (by omega) (s := cy + (xs[k] * q + zs[k])) rfl, hblk.setMid Hoff.out (by omega) (u32_mod _ (cast_mac _ _ _ _)), hmod.setCell _ _⟩
   case measure => simp [intOf]; omega
  ·have hk' : k = xs.length := by omega
   have hmx : xs.length <= zs.length := by omega
   subst hk';have Hd := Lib.hid (hinv.done hmx)
   by_cases hc0 : cy = 0
   ·subst hc0
    go_wp2
    go_end0
    exact ⟨zs, rfl, by omega, hinv.w32, hblk, by have h := Hd.out; rw [Nat.mul_zero, Nat.add_zero] at h; exact h, hmod⟩
   ·have hmn : m < n := by
     rcases Nat.lt_or_ge m n with h | h
     ·exact h
     ·exact absurd (no_carry (n := n) (by omega) Hd.out (by omega) Hf.out) hc0
    have hc1 : (((cy : Nat) : Int) == 0) = false := by rw [beq_eq_false_iff_ne]; omega
    have hc2 : (((cy : Nat) : Int) != 0) = true := by rw [bne_iff_ne]; omega
    have hcm : m < cz := by omega
    have hcm' : ¬ cz = m := by omega
    have hb1 := hblk.ext ((Ext.refl wr).alloc (.cells #[.int .u32 (cy : Int)] 89));have hsp := split_mid pre zs post m;rw [hsp] at hb1;have hnew := BlkN.lit wr [cy] #[.int .u32 (cy : Int)] rfl;have hrd := hnew.rd0 (W32.one hcy)
    have hap2 : Apart (some ⟨wr.heap.size, 0, none⟩) [cy] g := by
     intro _ a ha
     injection ha with ha
     subst ha;have := hblk.lt
     show wr.heap.size ≠ g
     omega
    have hmod1 := hmod.alloc (.cells #[.int .u32 (cy : Int)] 89);have Hsp := Lib.hid hsp;clear hsp
    go_wp2_with (go_at_call 156; refine (int_addTo (n := n - m) (pre := pre ++ zs.take m) (zs0 := zs.drop m) (post := post) _ _ [cy] _ hb1 (by rw [List.length_append, Hoff.out, List.length_take]; omega) (by rw [List.length_drop]; omega) (hinv.w32.drop m) hrd rfl hap2 (by simp; omega) (by omega)).mono ?_; rintro e w2 ⟨zt, rfl, hzl, hzw, hzb, ⟨c2, hc2, hval⟩, hmod2⟩)
    go_end0
    have hm := Hm.out;subst hm;refine ⟨zs.take xs.length ++ zt, rfl, by rw [List.length_append, List.length_take, hzl]; omega, (hinv.w32.take _).append hzw, by rw [<- List.append_assoc pre]; exact hzb, ?_, hmod1.trans hmod2⟩;exact mul_tail (n := n) (c2 := c2) (by omega) Hd.out hl (by rw [hval, val_one]) Hf.out
theorem int_addProduct1 {g off n cz p : Nat} {pre zs0 post : List Nat} (hblk0 : BlkN w g (pre ++ zs0 ++ post)) (hoff : pre.length = off) (hn : zs0.length = n) (hw : W32 zs0) (hx : Rd w A xs) (hm : xs.length = m) (hap : Apart A xs g)
  (hy : Rd w B ys) (hp : ys.length = p) (hbp : Apart B ys g) (hpm : p <= m) (hp64 : p < 64) (hl : m + p <= n) (hf : val zs0 + val xs * val ys < 4294967296 ^ n) (h1 : n <= 1000000) (hcz : n <= cz) (hczm : cz <= maxLen) :
  Calls Tryz.prog 145 #[.slice (some ⟨g, off, none⟩) n cz, .slice A m c, .slice B p d] w (Turned w g pre n post fun zs => val zs = val zs0 + val xs * val ys) := by
 have Hczm := Lib.hid hczm;unfold maxLen at hczm;have Hoff := Lib.hid hoff;have Hn := Lib.hid hn;have Hm := Lib.hid hm;have Hp := Lib.hid hp;have Hf := Lib.hid hf;clear hoff hn hm hp hf;have ht1 : decide ((p : Int) < 64) = true := decide_eq_true (by omega);have ht2 : decide ((m : Int) < (p : Int)) = false := decide_eq_false (by omega);have ht3 : decide (m < p) = false := decide_eq_false (by omega)
 go_enter Tryz.func145, Tryz.ntmps145
 go_wp2
 go_loopw [26] (fun i wr => ∃ (k : Nat) (zs : List Nat), k <= p /\ i = .int .i64 (k : Int) /\ zs.length = n /\ W32 zs /\ val zs = val zs0 + val xs * val (ys.take k) /\ BlkN wr g (pre ++ zs ++ post) /\ Mod w wr g) (fun i _ => p - (intOf i).toNat)
 case atStart => exact ⟨0, zs0, by omega, rfl, Hn.out, hw, by simp [val], hblk0, Mod.refl _ _⟩
 case round =>
  obtain ⟨k, zs, hk, rfl, hzl, hzw, hzv, hblk, hmod⟩ := hrel;have Hzl := Lib.hid hzl;have Hzv := Lib.hid hzv;clear hzl hzv;have hyl : p <= ys.length := by rw [Hp.out]; omega
  have hyl2 : ys.length <= p := by rw [Hp.out]; omega
  by_cases hlt : k < p
  ·obtain ⟨b, off', rfl, hb, hc1⟩ := (hy.mod hmod hbp).at_ (i := k) (by omega)
   have hyk := hy.1.get (k := k) (by omega);have hkc : k < cz := by omega
   have hkc' : ¬ cz = k := by omega
   have hb1 : BlkN wr g ((pre ++ zs.take k) ++ zs.drop k ++ post) := by rw [<- split_mid]; exact hblk
   go_wp2_with (go_at_call 162; refine (int_addMultiple (n := n - k) (m := m) (pre := pre ++ zs.take k) (zs0 := zs.drop k) (post := post) (q := ys[k]) hb1 (by rw [List.length_append, Hoff.out, List.length_take, Hzl.out]; omega) (by rw [List.length_drop, Hzl.out]) (hzw.drop k) (hx.mod hmod hap) Hm.out hap (by omega) hyk (prod_fits (by omega) (by omega) Hzl.out Hzv.out Hf.out) (by omega) (by omega) (Nat.le_trans (Nat.sub_le _ _) Hczm.out)).mono ?_; rintro e w2 ⟨zt, rfl, hztl, hztw, hztb, hztv, hmod2⟩)
   go_roundw
   case rel =>
    refine ⟨k + 1, zs.take k ++ zt, by omega, by go_num, ?_, (hzw.take k).append hztw, prod_step (by omega) (by omega) Hzl.out Hzv.out hztv, by rw [<- List.append_assoc pre]; exact hztb, hmod.trans hmod2⟩;have := Hzl.out;rw [List.length_append, List.length_take, hztl]; omega
   case measure => simp [intOf]; omega
  ·have Hfin := Lib.hid (by rw [Hzv.out, List.take_of_length_le (by omega)] : val zs = val zs0 + val xs * val ys)
   go_wp2
   go_end0
   exact ⟨zs, rfl, Hzl.out, hzw, hblk, Hfin.out, hmod⟩
theorem int_addProduct2 {g off n cz p : Nat} {pre zs0 post : List Nat} (hblk0 : BlkN w g (pre ++ zs0 ++ post)) (hoff : pre.length = off) (hn : zs0.length = n) (hw : W32 zs0) (hx : Rd w A xs) (hm : xs.length = m) (hap : Apart A xs g)
  (hy : Rd w B ys) (hp : ys.length = p) (hbp : Apart B ys g) (hpm : m < p) (hp64 : m < 64) (hl : m + p <= n) (hf : val zs0 + val xs * val ys < 4294967296 ^ n) (h1 : n <= 1000000) (hcz : n <= cz) (hczm : cz <= maxLen) :
  Calls Tryz.prog 145 #[.slice (some ⟨g, off, none⟩) n cz, .slice A m c, .slice B p d] w (Turned w g pre n post fun zs => val zs = val zs0 + val xs * val ys) := by
 have Hczm := Lib.hid hczm;unfold maxLen at hczm;have Hoff := Lib.hid hoff;have Hn := Lib.hid hn;have Hm := Lib.hid hm;have Hp := Lib.hid hp;have Hf := Lib.hid hf;clear hoff hn hm hp hf;have ht1 : decide ((m : Int) < 64) = true := decide_eq_true (by omega);have ht2 : decide ((m : Int) < (p : Int)) = true := decide_eq_true (by omega);have ht3 : decide (m < p) = true := decide_eq_true (by omega)
 go_enter Tryz.func145, Tryz.ntmps145
 go_wp2
 go_loopw [26] (fun i wr => ∃ (k : Nat) (zs : List Nat), k <= m /\ i = .int .i64 (k : Int) /\ zs.length = n /\ W32 zs /\ val zs = val zs0 + val ys * val (xs.take k) /\ BlkN wr g (pre ++ zs ++ post) /\ Mod w wr g) (fun i _ => m - (intOf i).toNat)
 case atStart => exact ⟨0, zs0, by omega, rfl, Hn.out, hw, by simp [val], hblk0, Mod.refl _ _⟩
 case round =>
  obtain ⟨k, zs, hk, rfl, hzl, hzw, hzv, hblk, hmod⟩ := hrel;have Hzl := Lib.hid hzl;have Hzv := Lib.hid hzv;clear hzl hzv;have hyl : m <= xs.length := by rw [Hm.out]; omega
  have hyl2 : xs.length <= m := by rw [Hm.out]; omega
  by_cases hlt : k < m
  ·obtain ⟨b, off', rfl, hb, hc1⟩ := (hx.mod hmod hap).at_ (i := k) (by omega)
   have hyk := hx.1.get (k := k) (by omega);have hkc : k < cz := by omega
   have hkc' : ¬ cz = k := by omega
   have hb1 : BlkN wr g ((pre ++ zs.take k) ++ zs.drop k ++ post) := by rw [<- split_mid]; exact hblk
   go_wp2_with (go_at_call 162; refine (int_addMultiple (n := n - k) (m := p) (pre := pre ++ zs.take k) (zs0 := zs.drop k) (post := post) (q := xs[k]) hb1 (by rw [List.length_append, Hoff.out, List.length_take, Hzl.out]; omega) (by rw [List.length_drop, Hzl.out]) (hzw.drop k) (hy.mod hmod hbp) Hp.out hbp (by omega) hyk (prod_fits (by omega) (by omega) Hzl.out Hzv.out (by rw [Nat.mul_comm]; exact Hf.out)) (by omega) (by omega) (Nat.le_trans (Nat.sub_le _ _) Hczm.out)).mono ?_; rintro e w2 ⟨zt, rfl, hztl, hztw, hztb, hztv, hmod2⟩)
   go_roundw
   case rel =>
    refine ⟨k + 1, zs.take k ++ zt, by omega, by go_num, ?_, (hzw.take k).append hztw, prod_step (by omega) (by omega) Hzl.out Hzv.out hztv, by rw [<- List.append_assoc pre]; exact hztb, hmod.trans hmod2⟩;have := Hzl.out;rw [List.length_append, List.length_take, hztl]; omega
   case measure => simp [intOf]; omega
  ·have Hfin := Lib.hid (by rw [Hzv.out, List.take_of_length_le (by omega), Nat.mul_comm] : val zs = val zs0 + val xs * val ys)
   go_wp2
   go_end0
   exact ⟨zs, rfl, Hzl.out, hzw, hblk, Hfin.out, hmod⟩
theorem int_addProduct_s {g off n cz p : Nat} {pre zs0 post : List Nat} (hblk0 : BlkN w g (pre ++ zs0 ++ post)) (hoff : pre.length = off) (hn : zs0.length = n) (hw : W32 zs0) (hx : Rd w A xs) (hm : xs.length = m) (hap : Apart A xs g)
  (hy : Rd w B ys) (hp : ys.length = p) (hbp : Apart B ys g) (h64 : min m p < 64) (hl : m + p <= n) (hf : val zs0 + val xs * val ys < 4294967296 ^ n) (h1 : n <= 1000000) (hcz : n <= cz) (hczm : cz <= maxLen) :
  Calls Tryz.prog 145 #[.slice (some ⟨g, off, none⟩) n cz, .slice A m c, .slice B p d] w (Turned w g pre n post fun zs => val zs = val zs0 + val xs * val ys) := by
 by_cases h : p <= m
 ·exact int_addProduct1 hblk0 hoff hn hw hx hm hap hy hp hbp h (by omega) hl hf h1 hcz hczm
 ·exact int_addProduct2 hblk0 hoff hn hw hx hm hap hy hp hbp (by omega) (by omega) hl hf h1 hcz hczm
end
theorem mk_wordsA (T : TypeId) (hT : Tryz.prog.underlying T = some (.slice 89)) (n m : Nat) (hn : n + m <= 1000000) (W : World) :
  (Instr.makeSlice T (.int .i64 ((n : Int) + (m : Int))) (.int .i64 ((n : Int) + (m : Int)))).run Tryz.prog W = .ok (.slice (some ⟨W.heap.size, 0, none⟩) (n + m) (n + m)) (W.alloc (.cells (madeCells #[.int .u32 0] (n + m)) 89)) := by
 have := mk_words T hT (n + m) hn W
 rwa [Int.natCast_add] at this
section
variable {A B : Option Addr} {c d n m : Nat} {xs ys : List Nat} {w : World}
theorem ref_times1 (hn : xs.length = n) (hm : ys.length = m) (hx : Rd w A xs) (hy : Rd w B ys) (h1 : n + m <= 1000000) :
  Calls Tryz.prog 148 #[.slice A n c, .slice B m d] w (RetN (fun zs => val zs = val xs * val ys /\ Nrm zs /\ zs.length <= xs.length + ys.length) w) := by
 have hmk := mk_wordsA 26 Tryz.underlying26 n m h1;have Hn := Lib.hid hn;have Hm := Lib.hid hm;clear hn hm
 go_enter Tryz.func148, Tryz.ntmps148
 go_wp2
 go_loopw [6] (fun i wr => ∃ (k : Nat) (zs : List Nat), k <= n /\ i = .int .i64 (k : Int) /\ zs.length = n + m /\ W32 zs /\ val (zs.take (k + m)) = val (xs.take k) * val ys /\ BlkN wr w.heap.size zs /\ Ext w wr) (fun i _ => n - (intOf i).toNat)
 case atStart => exact ⟨0, List.replicate (n + m) 0, by omega, rfl, by simp, W32.replicate _, by have := times_start (zs := List.replicate (n + m) 0) (ys := ys) (m := m) (fun x hx => (List.mem_replicate.1 hx).2); simpa using this, BlkN.new w _, (Ext.refl w).alloc _⟩
 case round =>
  obtain ⟨i, zs, hi, rfl, hzl, hzw, hzv, hblk, hext⟩ := hrel;have Hzl := Lib.hid hzl;have Hzv := Lib.hid hzv;clear hzl hzv
  by_cases hlt : i < n
  ·have hb1 : BlkN wr w.heap.size (zs.take i ++ (zs.drop i).take m ++ zs.drop (i + m)) := by rw [mid_split]; exact hblk
   have hix : i < xs.length := by rw [Hn.out]; exact hlt
   have hxi := hx.1.get hix
   go_wp2
   go_loopw [7, 8] (fun cr j wk => ∃ (k : Nat) (mid : List Nat) (cy : Nat), k <= m /\ j = .int .i64 (k : Int) /\ cr = .int .u64 (cy : Int) /\ MulInv ((zs.drop i).take m) ys xs[i] k mid cy /\ BlkN wk w.heap.size (zs.take i ++ mid ++ zs.drop (i + m)) /\ Ext w wk) (fun _ j _ => m - (intOf j).toNat)
   case atStart => exact ⟨0, _, 0, by omega, rfl, rfl, MulInv.start ((hzw.drop i).take m), hb1, hext⟩
   case round =>
    clear hb1 hblk hext;obtain ⟨k, mid, cy, hk, rfl, rfl, hinv, hblk, hext⟩ := hrel;have hcy := hinv.hcy;have hml : mid.length = m := by rw [hinv.len, List.length_take, List.length_drop, Hzl.out]; omega
    have hml1 : m <= mid.length := by omega
    have hml2 : mid.length <= m := by omega
    have hli : (zs.take i).length = i := by rw [List.length_take, Hzl.out]; omega
    have Hml := Lib.hid hml;have Hli := Lib.hid hli;clear hml hli
    by_cases hlk : k < m
    ·have hky : k < ys.length := by rw [Hm.out]; exact hlk
     obtain ⟨b, off, rfl, hb, hc1⟩ := (hx.ext hext).at_ hix;obtain ⟨b', off', rfl, hb', hc2⟩ := (hy.ext hext).at_ (i := k) (by rw [Hm.out]; exact hlk);have hyk := hy.1.get (k := k) (by rw [Hm.out]; exact hlk);obtain ⟨b2, off2, he, hb2, hc3⟩ := (hblk.mid hinv.w32 Hli.out).at_ (i := k) (by omega)
     injection he with he
     injection he with he1 he2
     subst he1; subst he2;have hzk := hinv.w32.get (k := k) (by omega);have hfz := hblk.frozen (i + k);have hmi := (mul_word_int hxi hyk).1;have hmj := (mul_word_int hxi hyk).2;have i1 : (0 : Int) <= (i : Int) := by omega
     have i2 : (i : Int) < (n : Int) := by omega
     have i3 : (0 : Int) <= (k : Int) := by omega
     have i4 : (k : Int) < (m : Int) := by omega
     have i5 : (0 : Int) <= (i : Int) + (k : Int) := by omega
     have i6 : (i : Int) + (k : Int) < (n : Int) + (m : Int) := by omega
     go_wp2
     go_quiet (fail)
     go_wp2
     go_roundw
     case rel => exact ⟨k + 1, _, (cy + (ys[k] * xs[i] + mid[k])) / 4294967296, by omega, by go_num, u64_div _ (cast_mac2 _ _ _ _), hinv.step hy.1 hxi (by omega) (by rw [Hm.out]; exact hlk) rfl, (hblk.drewN nq).setMid Hli.out (by omega) (u32_mod _ (cast_mac2 _ _ _ _)), (hext.drewN nq).setCell (Nat.le_refl _) _⟩
     case measure => simp [intOf]; omega
    ·have hk' : k = m := by omega
     have hinv' : MulInv ((zs.drop i).take m) ys xs[i] ys.length mid cy := by
      have hk2 : k = ys.length := by rw [Hm.out]; exact hk'
      rw [<- hk2]; exact hinv
     have Hd := Lib.hid (hinv'.done (by rw [Hm.out, Hml.out]; exact Nat.le_refl _))
     have hzt : (zs.take i ++ mid ++ zs.drop (i + m)).length = n + m := by
      rw [List.length_append, List.length_append, Hli.out, Hml.out, List.length_drop, Hzl.out]; omega
     have Hzt := Lib.hid hzt;clear hzt;have hlast := hblk.cell (i := i + m) (by rw [Hzt.out]; omega);have hfz := hblk.frozen (i + m);have i1 : (0 : Int) <= (i : Int) := by omega
     have i5 : (0 : Int) <= (i : Int) + (m : Int) := by omega
     have i6 : (i : Int) + (m : Int) < (n : Int) + (m : Int) := by omega
     have hw2 : W32 (zs.take i ++ mid ++ zs.drop (i + m)) := ((hzw.take i).append hinv.w32).append (hzw.drop _);clear hk'
     go_wp2
     go_roundw
     case rel =>
      refine ⟨i + 1, _, by omega, by go_num, ?_, hw2.set (i + m) hcy, times_step hix (by rw [Hzl.out]; omega) Hm.out Hml.out Hzv.out (by have h := Hd.out; rw [Hm.out] at h; exact h), hblk.set (i + m) (by go_num), hext.setCell (Nat.le_refl _) _⟩;rw [List.length_set];exact Hzt.out
     case measure => simp [intOf]; omega
  ·have hk' : i = n := by omega
   have hrd := hblk.rd0 hzw
   have hfin : val zs = val xs * val ys := by
    have h := Hzv.out;rw [List.take_of_length_le (by rw [Hzl.out]; omega), List.take_of_length_le (by rw [Hn.out]; omega)] at h;exact h
   have Hfin := Lib.hid hfin;clear hfin hk'
   go_wp2_with (go_at_call 93; refine (ref_trimN (xs := zs) Hzl.out hrd (Nat.le_refl _) (by unfold maxLen; omega)).mono ?_; rintro e w' ⟨rfl, rfl⟩)
   go_ret
   have hlen := trimL_len zs;have hz := Hzl.out;have hn := Hn.out;have hm := Hm.out;refine ⟨_, _, trimL zs, rfl, ?_, by omega, by unfold maxLen; omega, ⟨by rw [val_trimL, Hfin.out], Nrm.trimL _, by omega⟩, hext⟩;rw [trimL_take];exact (Own.of_blk hblk hzw (Nat.le_refl _)).take _
end
end
section
open Go.RowKit
attribute [local go_sem ↓] Go.wp_at_zero Go.wp_at_succ
theorem ival_mul {s t : Bool} {xs ys zs : List Nat} (h : val zs = val xs * val ys) : ival (!(s == t)) zs = ival s xs * ival t ys := by
 unfold ival;rw [h]
 cases s <;> cases t <;> simp [Int.natCast_mul, Int.neg_mul, Int.mul_neg]
def Ret2 (P : List Nat -> List Nat -> Prop) (w : World) (e : Ending) (w' : World) : Prop :=
 ∃ A c ys A' c' zs, e = .returned (.tuple #[.slice A (List.length ys) c, .slice A' (List.length zs) c']) /\ Own w' w.heap.size A ys /\ Own w' w.heap.size A' zs /\ ys.length <= c /\ c <= maxLen /\ zs.length <= c' /\ c' <= maxLen /\ P ys zs /\ Ext w w'
def DivideOK (L : Nat) : Prop := ∀ (A B : Option Addr) (c d n m : Nat) (xs ys : List Nat) (w : World), xs.length = n -> ys.length = m -> Rd w A xs -> Rd w B ys -> n <= c -> c <= maxLen -> m <= d -> d <= maxLen -> Nrm xs -> Nrm ys -> 0 < m -> n <= L -> m <= 100000 ->
  Calls Tryz.prog 151 #[.slice A n c, .slice B m d] w (Ret2 (fun qs rs => val qs = val xs / val ys /\ val rs = val xs % val ys /\ Nrm qs /\ Nrm rs /\ qs.length <= xs.length /\ rs.length <= xs.length) w)
theorem val_lt_two {xs : List Nat} (h : W32 xs) (hl : xs.length <= 2) : val xs < 18446744073709551616 := by
 have := val_lt h;have : 4294967296 ^ xs.length <= 4294967296 ^ 2 := Nat.pow_le_pow_right (by omega) hl;omega
theorem nrm_len_le {zs xs : List Nat} (hx : W32 xs) (hz : Nrm zs) (h : val zs <= val xs) : zs.length <= xs.length := by
 rcases Nat.lt_or_ge xs.length zs.length with hl | hl
 ·have := val_lt_of_len hx hz hl; omega
 ·exact hl
theorem wrap_nat {a : Nat} (h : a < 18446744073709551616) : IntKind.u64.wrap (a : Int) = (a : Int) := by rw [IntKind.wrap_u64]; omega
section
variable {A B : Option Addr} {c d n m : Nat} {xs ys : List Nat} {w : World} {s t : Bool}
theorem int_divide_lt (hn : xs.length = n) (hm : ys.length = m) (hx : Rd w A xs) (hy : Rd w B ys) (hnx : Nrm xs) (hny : Nrm ys) (hlt : val xs < val ys) (h1 : n <= 100000) (h2 : m <= 100000) :
  Calls Tryz.prog 151 #[.slice A n c, .slice B m d] w (Ret2 (fun qs rs => val qs = val xs / val ys /\ val rs = val xs % val ys /\ Nrm qs /\ Nrm rs /\ qs.length <= xs.length /\ rs.length <= xs.length) w) := by
 have hcm1 := Lib.hid (show cmpL xs ys = -1 by rw [cmpL_nrm hx.1 hy.1 hnx hny]; exact cmpI_of_lt hlt);have Hlt := Lib.hid hlt;clear hlt
 go_enter Tryz.func151, Tryz.ntmps151
 go_wp2_with fail
 subst hn;subst hm;refine (int_compare A B c d xs ys w hx hy (by unfold maxLen; omega) (by unfold maxLen; omega)).mono ?_;rintro e w1 ⟨rfl, hext1⟩;rw [hcm1.out]
 go_wp2_with fail
 refine (clone rfl (hx.ext hext1) (by omega)).mono ?_;rintro e w2 ⟨A2, c2, zs, rfl, ho2, hc2, hm2, rfl, hext2⟩
 go_wp2_with fail
 go_ret2
 have h := Hlt.out;exact ⟨none, 0, [], A2, c2, zs, rfl, ⟨W32.nil, .inl rfl⟩, ho2.mono hext1.size, by simp, by unfold maxLen; omega, hc2, hm2, ⟨by rw [Nat.div_eq_of_lt h]; rfl, by rw [Nat.mod_eq_of_lt h], Nrm.nil, hnx, by simp, Nat.le_refl _⟩, hext1.trans hext2⟩
set_option maxRecDepth 100000 in
theorem int_divide_two (hn : xs.length = n) (hm : ys.length = m) (hx : Rd w A xs) (hy : Rd w B ys) (hnx : Nrm xs) (hny : Nrm ys) (hge : val ys <= val xs) (h0 : 0 < m) (h2 : n <= 2) :
  Calls Tryz.prog 151 #[.slice A n c, .slice B m d] w (Ret2 (fun qs rs => val qs = val xs / val ys /\ val rs = val xs % val ys /\ Nrm qs /\ Nrm rs /\ qs.length <= xs.length /\ rs.length <= xs.length) w) := by
 have hml := len_le hx.1 hny hge
 have hpos : val ys ≠ 0 := fun h => by
  have := hny.zero.1 h;subst this;simp at hm;omega
 have hcase : cmpL xs ys = 0 \/ cmpL xs ys = 1 := by
  rw [cmpL_nrm hx.1 hy.1 hnx hny]
  rcases Nat.lt_or_ge (val ys) (val xs) with h | h
  ·exact .inr (cmpI_of_gt h)
  ·exact .inl (cmpI_of_eq (by omega))
 have hvx := val_lt_two hx.1 (by omega);have hvy := val_lt_two hy.1 (by omega);have q1 : val xs / val ys <= val xs := Nat.div_le_self _ _;have q2 : val xs % val ys < val ys := Nat.mod_lt _ (by omega);have e1 : val xs / val ys / 4294967296 < 4294967296 := by omega
 have e2 : val xs % val ys / 4294967296 < 4294967296 := by omega
 have Hvx := Lib.hid hvx;have Hvy := Lib.hid hvy;have Hq1 := Lib.hid q1;have Hq2 := Lib.hid q2;have E1 := Lib.hid e1;have E2 := Lib.hid e2;have Hge := Lib.hid hge;subst hn;subst hm;have Hml := Lib.hid hml;have hz : ((val ys : Nat) : Int) ≠ 0 := by omega
 have hz0 : (((val ys : Nat) : Int) == 0) = false := by rw [beq_eq_false_iff_ne]; exact hz
 have hp1 : (1 : Int) <= ((val ys : Nat) : Int) := by omega
 clear hvx hvy q1 q2 e1 e2 hml hge hz
 rcases hcase with hcm | hcm
 all_goals
  have hcm1 := Lib.hid hcm;clear hcm
  go_enter Tryz.func151, Tryz.ntmps151
  go_wp2_with fail
  refine (int_compare A B c d xs ys w hx hy (by unfold maxLen; omega) (by have := Hml.out; unfold maxLen; omega)).mono ?_;rintro e w1 ⟨rfl, hext1⟩;rw [hcm1.out]
  go_wp2_with fail
  refine (int_toUint rfl (hx.ext hext1) h2).mono ?_;rintro e w2 ⟨rfl, rfl⟩
  go_wp2_with fail
  refine (int_toUint rfl (hy.ext hext1) (by have := Hml.out; omega)).mono ?_;rintro e w2 ⟨rfl, rfl⟩;clear hp1 hz0;generalize hX : val xs = X at *;generalize hY : val ys = Y at *;have HX := Lib.hid hX;have HY := Lib.hid hY;clear hX hY;have hz0 : ((Y : Int) == 0) = false := by rw [beq_eq_false_iff_ne]; omega
  have hp1 : (1 : Int) <= (Y : Int) := by omega
  have hp0 : (0 : Int) <= (X : Int) := by omega
  go_wp2_with fail
  have hq : (X : Int) / (Y : Int) = ((X / Y : Nat) : Int) := (Int.natCast_ediv _ _).symm;have hr : (X : Int) % (Y : Int) = ((X % Y : Nat) : Int) := (Int.natCast_emod _ _).symm;have hq' : (X : Int).tdiv (Y : Int) = ((X / Y : Nat) : Int) := rfl;have hr' : (X : Int).tmod (Y : Int) = ((X % Y : Nat) : Int) := rfl;have hw1 : IntKind.u64.wrap ((X / Y : Nat) : Int) = ((X / Y : Nat) : Int) := wrap_nat (Nat.lt_of_le_of_lt Hq1.out Hvx.out);have hw2 : IntKind.u64.wrap ((X % Y : Nat) : Int) = ((X % Y : Nat) : Int) := wrap_nat (Nat.lt_trans Hq2.out Hvy.out);generalize hU : X / Y = U at *;generalize hV : X % Y = V at *;have HU := Lib.hid hU;have HV := Lib.hid hV;clear hp0 hp1 hU hV
  go_region_with (first | (go_at_call_of 126 U; refine (int_fromUint U E1.out).mono ?_; rintro e w3 ⟨A3, c3, qs, rfl, ho3, hc3, hm3, ⟨hv3, hn3, hl3⟩, hext3⟩; have Hv3 := Lib.hid hv3; clear hv3) | (go_at_call_of 126 V; refine (int_fromUint V E2.out).mono ?_; rintro e w4 ⟨A4, c4, rs, rfl, ho4, hc4, hm4, ⟨hv4, hn4, hl4⟩, hext4⟩; have Hv4 := Lib.hid hv4; clear hv4))
  all_goals
   go_wp2_with fail
   go_ret2
   have ext3 := (Ext.refl w1).drew.trans hext3;have e3 := Hv3.out;have e4 := Hv4.out;have hX := HX.out;have hY := HY.out;exact ⟨A3, c3, qs, A4, c4, rs, rfl, (ho3.ext hext4).mono hext1.size, ho4.mono (hext1.trans ext3).size, hc3, hm3, hc4, hm4, ⟨by rw [e3, hX, hY, HU.out], by rw [e4, hX, hY, HV.out], hn3, hn4, nrm_len_le hx.1 hn3 (by rw [e3, hX]; exact Hq1.out), nrm_len_le hx.1 hn4 (by rw [e4, hX]; have := Hq2.out; have := Hge.out; omega)⟩, hext1.trans (ext3.trans hext4)⟩
end
def IsDM (a b q r : Int) : Prop := a = q * b + r /\ (r = 0 \/ (0 < b /\ 0 < r /\ r < b) \/ (b < 0 /\ b < r /\ r < 0))
def RetDM (a b : Int) (lq lr : Nat) (w : World) (e : Ending) (w' : World) : Prop :=
 ∃ b3 A3 c3 qs b4 A4 c4 rs q r, e = .returned (.tuple #[.agg #[.bool b3, .slice A3 (List.length qs) c3], .agg #[.bool b4, .slice A4 (List.length rs) c4], .int .i64 0]) /\ Rd w' A3 qs /\ Rd w' A4 rs /\ qs.length <= c3 /\ c3 <= maxLen /\ rs.length <= c4 /\ c4 <= maxLen /\
  IsInt q b3 qs /\ IsInt r b4 rs /\ IsDM a b q r /\ qs.length <= lq /\ rs.length <= lr /\ Ext w w'
theorem box4 (w : World) (t u v z : TypeId) (a b c d : Array Value) : ∃ W, W = (((w.alloc (.cells a t)).alloc (.cells b u)).alloc (.cells c v)).alloc (.cells d z) /\ Ext w W /\ Box W w.heap.size t a /\ Box W (w.heap.size + 1) u b /\ Box W (w.heap.size + 1 + 1) v c /\ Box W (w.heap.size + 1 + 1 + 1) z d /\ w.heap.size + 4 <= W.heap.size := by
 obtain ⟨W, rfl, h1, h2, h3, h4, h5⟩ := box3 w t u v a b c;have h6 := Box.new (((w.alloc (.cells a t)).alloc (.cells b u)).alloc (.cells c v)) z d;simp only [World.size_alloc] at h6;exact ⟨_, rfl, h1.alloc _, h2.ext ((Ext.refl _).alloc _), h3.ext ((Ext.refl _).alloc _), h4.ext ((Ext.refl _).alloc _), h6, by simp⟩
theorem dm_near {s t : Bool} {x y q r : Nat} (hy : 0 < y) (h : x = q * y + r) (hr : r < y) (hc : (s == t) = true \/ r = 0) :
  IsDM (if s then -(x : Int) else (x : Int)) (if t then -(y : Int) else (y : Int)) (if (!(s == t)) = true then -(q : Int) else (q : Int)) (if t then -(r : Int) else (r : Int)) := by
 subst h;have e : (((q * y + r : Nat)) : Int) = (q : Int) * (y : Int) + (r : Int) := by rw [Int.natCast_add, Int.natCast_mul]
 rw [e];refine ⟨?_, ?_⟩
 ·cases s <;> cases t <;> simp at hc ⊢ <;> (try subst hc) <;> simp [Int.neg_mul, Int.mul_neg] <;> omega
 ·cases t
  ·simp; omega
  ·simp; omega
theorem dm_far {s t : Bool} {x y q r : Nat} (hr0 : 0 < r) (h : x = q * y + r) (hr : r < y) (hc : (s == t) = false) :
  IsDM (if s then -(x : Int) else (x : Int)) (if t then -(y : Int) else (y : Int)) (-((q + 1 : Nat) : Int)) (if t then -((y - r : Nat) : Int) else ((y - r : Nat) : Int)) := by
 subst h;have e : (((q * y + r : Nat)) : Int) = (q : Int) * (y : Int) + (r : Int) := by rw [Int.natCast_add, Int.natCast_mul]
 have e2 : ((y - r : Nat) : Int) = (y : Int) - (r : Int) := by omega
 rw [e, e2];refine ⟨?_, ?_⟩
 ·cases s <;> cases t <;> simp at hc ⊢ <;> rw [Int.neg_mul] <;> (try rw [Int.mul_neg]) <;> rw [Int.add_mul] <;> omega
 ·cases t
  ·simp; omega
  ·simp; omega
theorem fin_two {w w2 : World} {g h : Nat} {ty : TypeId} {x x' : Bool} {y y' : Option Addr} {p q p' q' : Nat} {A A' : Option Addr} {rs rs' : List Nat} {b b' : Bool} {n c n' c' : Nat} (hext : Ext w w2) (hg : w.heap.size <= g) (hh : w.heap.size <= h) (hne : g ≠ h)
  (hb : Box w2 g ty #[.bool x, .slice y p q]) (hb' : Box w2 h ty #[.bool x', .slice y' p' q']) (hr : Rd w2 A rs) (hr' : Rd w2 A' rs') (v0 v1 v2 v3 : Value) (e0 : v0 = .bool b) (e1 : v1 = .slice A n c) (e2 : v2 = .bool b') (e3 : v3 = .slice A' n' c') :
  ∃ W', W' = (((w2.setCell ⟨g, 0, none⟩ v0).setCell ⟨g, 1, none⟩ v1).setCell ⟨h, 0, none⟩ v2).setCell ⟨h, 1, none⟩ v3 /\ Rd W' A rs /\ Rd W' A' rs' /\ Ext w W' /\ W'.cell? ⟨g, 0, none⟩ = some (.bool b) /\ W'.cell? ⟨g, 1, none⟩ = some (.slice A n c) /\ W'.cell? ⟨h, 0, none⟩ = some (.bool b') /\ W'.cell? ⟨h, 1, none⟩ = some (.slice A' n' c') := by
 subst e0 e1 e2 e3;obtain ⟨r1, r2, _, _⟩ := fin_pair (b := b) (n := n) (c := c) hext hg hb hr;have q1 := (hr'.setBox hb NoWord.two 0 (.bool b)).setBox (hb.setA (.bool b)) NoWord.two 1 (.slice A n c);have k1 := (hb.setA (.bool b)).setB (.slice A n c);have k2 := (hb'.far (p := ⟨g, 0, none⟩) (far_ne (Ne.symm hne)) (.bool b)).far (p := ⟨g, 1, none⟩) (far_ne (Ne.symm hne)) (.slice A n c);obtain ⟨s1, s2, s3, s4⟩ := fin_pair (b := b') (n := n') (c := c') r2 hh k2 q1;have t1 := (r1.setBox k2 NoWord.two 0 (.bool b')).setBox (k2.setA (.bool b')) NoWord.two 1 (.slice A' n' c');have k3 := (k1.far (p := ⟨h, 0, none⟩) (far_ne hne) (.bool b')).far (p := ⟨h, 1, none⟩) (far_ne hne) (.slice A' n' c');exact ⟨_, rfl, t1, s1, s2, k3.cell 0 _ rfl, k3.cell 1 _ rfl, s3, s4⟩
section
variable {A B : Option Addr} {c d n m L : Nat} {xs ys : List Nat} {w : World} {s t : Bool}
theorem int_DivMod_L (hD : DivideOK L) (hn : xs.length = n) (hm : ys.length = m) (hx : Rd w A xs) (hy : Rd w B ys) (hc : n <= c) (hcm : c <= maxLen) (hd : m <= d) (hdm : d <= maxLen) (h1 : n <= 100000) (h2 : m <= 100000) (hL : n <= L) (h0 : val ys ≠ 0) :
  Calls Tryz.prog 141 #[.agg #[.bool s, .slice A n c], .agg #[.bool t, .slice B m d]] w (RetDM (ival s xs) (ival t ys) (xs.length + 1) (max xs.length ys.length) w) := by
 have Hn := Lib.hid hn;have Hm := Lib.hid hm;clear hn hm;have lx := trimL_len xs;have ly := trimL_len ys;have hxt : Rd w A (trimL xs) := by rw [trimL_take]; exact hx.take _
 have hyt : Rd w B (trimL ys) := by rw [trimL_take]; exact hy.take _
 go_enter Tryz.func141, Tryz.ntmps141
 go_upto_region 1 with (fail)
 obtain ⟨W, hW, extW, bx, by_, bz, bu, hz⟩ := box4 w 28 28 28 28 #[.bool s, .slice A n c] #[.bool t, .slice B m d] #[.bool false, .slice none 0 0] #[.bool false, .slice none 0 0];rw [<- hW];clear hW;have x0 := bx.cell 0 (.bool s) rfl;have x1 := bx.cell 1 (.slice A n c) rfl;have y0 := by_.cell 0 (.bool t) rfl;have y1 := by_.cell 1 (.slice B m d) rfl
 go_quiet (first | (go_at_call_of 114 A; exact quiet_left (int_trimN Hn.out (hx.ext (extW.drewN _)) hc hcm)) | (go_at_call_of 114 B; exact quiet_left (int_trimN Hm.out (hy.ext (extW.drewN _)) hd hdm)))
 refine at_then (fun N => Ext w N /\ Box N w.heap.size 28 #[.bool s, .slice A n c] /\ Box N (w.heap.size + 1) 28 #[.bool t, .slice B m d] /\ Box N (w.heap.size + 1 + 1) 28 #[.bool false, .slice none 0 0] /\ Box N (w.heap.size + 1 + 1 + 1) 28 #[.bool false, .slice none 0 0] /\ w.heap.size + 4 <= N.heap.size) ⟨extW.drewN _, bx.ext ((Ext.refl _).drewN _), by_.ext ((Ext.refl _).drewN _), bz.ext ((Ext.refl _).drewN _), bu.ext ((Ext.refl _).drewN _), hz⟩ ?_;clear x0 x1 y0 y1 extW bx by_ bz bu hz;rintro N ⟨extN, bx, by_, bz, bu, hz⟩;have x0 := bx.cell 0 (.bool s) rfl;have y0 := by_.cell 0 (.bool t) rfl;have hpy : val (trimL ys) ≠ 0 := by rw [val_trimL]; exact h0
 have hly : 0 < (trimL ys).length := by
  rcases Nat.eq_zero_or_pos (trimL ys).length with h | h
  ·exact absurd ((Nrm.trimL ys).zero.2 (List.eq_nil_of_length_eq_zero h)) hpy
  ·exact h
 have ht0 : (((trimL ys).length : Int) == 0) = false := by rw [beq_eq_false_iff_ne]; omega
 have HD := Lib.hid hD;have H0 := Lib.hid h0;clear hD h0 hpy
 go_wp2_with fail
 refine (HD.out A B c d _ _ (trimL xs) (trimL ys) N rfl rfl (hxt.ext extN) (hyt.ext extN) (by have := Hn.out; omega) hcm (by have := Hm.out; omega) hdm (Nrm.trimL xs) (Nrm.trimL ys) hly (by have := Hn.out; omega) (by have := Hm.out; omega)).mono ?_;rintro e w1 ⟨A5, c5, qs, A6, c6, rs, rfl, ho5, ho6, hc5, hm5, hc6, hm6, ⟨hv5, hv6, hn5, hn6, hl5, hl6⟩, hext1⟩;have Hv5 := Lib.hid hv5;have Hv6 := Lib.hid hv6;clear hv5 hv6;replace extN := extN.trans hext1;replace bx := bx.ext hext1;replace by_ := by_.ext hext1;replace bz := bz.ext hext1;replace bu := bu.ext hext1;have hs1 := hext1.size;clear x0 y0;have x0 := bx.cell 0 (.bool s) rfl;have y0 := by_.cell 0 (.bool t) rfl;have hrs0 : rs.length = 0 -> val rs = 0 := fun h => by rw [List.eq_nil_of_length_eq_zero h]; rfl
 have hdm1 : val (trimL xs) = val qs * val (trimL ys) + val rs := by
  rw [Hv5.out, Hv6.out, Nat.mul_comm]; exact (Nat.div_add_mod _ _).symm
 have hdm2 : val rs < val (trimL ys) := by rw [Hv6.out]; exact Nat.mod_lt _ (by rw [val_trimL]; have := H0.out; omega)
 rw [val_trimL, val_trimL] at hdm1;rw [val_trimL] at hdm2;have Hdm1 := Lib.hid hdm1;have Hdm2 := Lib.hid hdm2;have Hrs0 := Lib.hid hrs0;clear hdm1 hdm2 hrs0
 by_cases hcase : (s == t) = true \/ rs.length = 0
 ·have Hcase := Lib.hid hcase
  rcases hcase with hst | hr0
  ·have hnot : (!(s == t)) = false := by rw [hst]; rfl
   go_wp2_with fail
   go_region_held3 (fun w' => w'.cell? ⟨w.heap.size + 1, 0, none⟩ = some (.bool t)) (first | (first | (exact Ext.cellv (by assumption) (by assumption)) | (refine (cell_far2 (by omega)).trans ?_; assumption)) | go_keep)
    (first | (go_at_call_of 112 A5; refine (int_signed rfl (ho5.rd.ext (by first | exact Ext.refl _ | exact (Ext.refl _).drew)) hc5 hm5 hn5).mono ?_; rintro e w3 ⟨b3, A3, c3, ps, rfl, hr3, hc3, hm3, hi3, hl3, hext3⟩; have ext3 := (Ext.refl w1).drew.trans hext3) | (go_at_call_of 112 A6; refine (int_signed rfl (ho6.rd.ext ext3) hc6 hm6 hn6).mono ?_; rintro e w4 ⟨b4, A4, c4, us, rfl, hr4, hc4, hm4, hi4, hl4, hext4⟩; have ext4 := ext3.trans hext4; have bz4 := bz.ext ext4; have bu4 := bu.ext ext4; have z0 := bz4.cell 0 (.bool false) rfl; have z1 := bz4.cell 1 (.slice none 0 0) rfl; have f0 := bz4.frozen 0; have f1 := bz4.frozen 1; have u0 := bu4.cell 0 (.bool false) rfl; have u1 := bu4.cell 1 (.slice none 0 0) rfl; have g0 := bu4.frozen 0; have g1 := bu4.frozen 1))
   go_wp2_with fail
   obtain ⟨W', hW', r1, r2, r3, r4, r5, r6, r7⟩ := fin_two (b := b3) (A := A3) (n := ps.length) (c := c3) (b' := b4) (A' := A4) (n' := us.length) (c' := c4) (extN.trans ext4) (show w.heap.size <= w.heap.size + 1 + 1 by omega) (show w.heap.size <= w.heap.size + 1 + 1 + 1 by omega) (by omega) bz4 bu4 (hr3.ext hext4) hr4 _ _ _ _ rfl rfl rfl rfl;rw [<- hW'];refine bodyPost_ret (v := .tuple #[.agg #[.bool b3, .slice A3 ps.length c3], .agg #[.bool b4, .slice A4 us.length c4], .int .i64 0]) (by simp [results, Tryz.results141, go_sem, r4, r5, r6, r7]) rfl ⟨b3, A3, c3, ps, b4, A4, c4, us, _, _, rfl, r1, r2, hc3, hm3, hc4, hm4, hi3, hi4, ?_, by omega, by omega, r3⟩;have e := dm_near (s := s) (t := t) (x := val xs) (y := val ys) (q := val qs) (r := val rs) (by have := H0.out; omega) Hdm1.out Hdm2.out (Hcase.out.imp id Hrs0.out)
   first | simp only [hst, Bool.not_true] at e | simp only [hst, Bool.not_false] at e | simp only [hst] at e
   exact e
  ·have hd1 : decide ((0 : Int) < (rs.length : Int)) = false := decide_eq_false (by omega)
   have hd2 : decide (0 < rs.length) = false := decide_eq_false (by omega);have Hr0 := Lib.hid hr0;clear hr0
   cases hst : (s == t)
   all_goals
    go_wp2_with fail
    go_region_held3 (fun w' => w'.cell? ⟨w.heap.size + 1, 0, none⟩ = some (.bool t)) (first | (first | (exact Ext.cellv (by assumption) (by assumption)) | (refine (cell_far2 (by omega)).trans ?_; assumption)) | go_keep)
     (first | (go_at_call_of 112 A5; refine (int_signed rfl (ho5.rd.ext (by first | exact Ext.refl _ | exact (Ext.refl _).drew)) hc5 hm5 hn5).mono ?_; rintro e w3 ⟨b3, A3, c3, ps, rfl, hr3, hc3, hm3, hi3, hl3, hext3⟩; have ext3 := (Ext.refl w1).drew.trans hext3) | (go_at_call_of 112 A6; refine (int_signed rfl (ho6.rd.ext ext3) hc6 hm6 hn6).mono ?_; rintro e w4 ⟨b4, A4, c4, us, rfl, hr4, hc4, hm4, hi4, hl4, hext4⟩; have ext4 := ext3.trans hext4; have bz4 := bz.ext ext4; have bu4 := bu.ext ext4; have z0 := bz4.cell 0 (.bool false) rfl; have z1 := bz4.cell 1 (.slice none 0 0) rfl; have f0 := bz4.frozen 0; have f1 := bz4.frozen 1; have u0 := bu4.cell 0 (.bool false) rfl; have u1 := bu4.cell 1 (.slice none 0 0) rfl; have g0 := bu4.frozen 0; have g1 := bu4.frozen 1))
    go_wp2_with fail
    obtain ⟨W', hW', r1, r2, r3, r4, r5, r6, r7⟩ := fin_two (b := b3) (A := A3) (n := ps.length) (c := c3) (b' := b4) (A' := A4) (n' := us.length) (c' := c4) (extN.trans ext4) (show w.heap.size <= w.heap.size + 1 + 1 by omega) (show w.heap.size <= w.heap.size + 1 + 1 + 1 by omega) (by omega) bz4 bu4 (hr3.ext hext4) hr4 _ _ _ _ rfl rfl rfl rfl;rw [<- hW'];refine bodyPost_ret (v := .tuple #[.agg #[.bool b3, .slice A3 ps.length c3], .agg #[.bool b4, .slice A4 us.length c4], .int .i64 0]) (by simp [results, Tryz.results141, go_sem, r4, r5, r6, r7]) rfl ⟨b3, A3, c3, ps, b4, A4, c4, us, _, _, rfl, r1, r2, hc3, hm3, hc4, hm4, hi3, hi4, ?_, by omega, by omega, r3⟩;have e := dm_near (s := s) (t := t) (x := val xs) (y := val ys) (q := val qs) (r := val rs) (by have := H0.out; omega) Hdm1.out Hdm2.out (Hcase.out.imp id Hrs0.out)
    first | simp only [hst, Bool.not_true] at e | simp only [hst, Bool.not_false] at e | simp only [hst] at e
    exact e
 ·have hst : (s == t) = false := by
   cases h : (s == t) with
   | true => exact absurd (.inl h) hcase
   | false => rfl
  have hrl : 0 < rs.length := by
   rcases Nat.eq_zero_or_pos rs.length with h | h
   ·exact absurd (.inr h) hcase
   ·exact h
  clear hcase;have hd1 : decide ((0 : Int) < (rs.length : Int)) = true := decide_eq_true (by omega);have hd2 : decide (0 < rs.length) = true := decide_eq_true (by omega)
  go_wp2_with fail
  have hnew := BlkN.lit w1 [1] #[.int .u32 1] rfl;refine (int_add (xs := qs) (ys := [1]) rfl rfl (ho5.rd.ext ((Ext.refl w1).alloc _)) (hnew.rd0 (W32.one (by omega))) (by have := Hn.out; omega) (by simp)).mono ?_;rintro e w5 ⟨A7, c7, q2, rfl, ho7, hc7, hm7, ⟨hv7, hn7, hl7⟩, hext7⟩;have ext7 := ((Ext.refl w1).alloc (.cells #[.int .u32 1] 89)).trans hext7;have Hv7 := Lib.hid hv7;clear hv7
  go_wp2_with fail
  refine (int_subtract (xs := trimL ys) (ys := rs) rfl rfl (hyt.ext (extN.trans ext7)) (ho6.rd.ext ext7) (len_le hyt.1 hn6 (by rw [val_trimL]; exact Nat.le_of_lt Hdm2.out)) (by rw [val_trimL]; exact Nat.le_of_lt Hdm2.out) (by have := Hm.out; omega)).mono ?_;rintro e w6 ⟨A8, c8, r2', rfl, ho8, hc8, hm8, ⟨hv8, hn8, hl8⟩, hext8⟩;have ext8 := ext7.trans hext8;have Hv8 := Lib.hid hv8;clear hv8;replace extN := extN.trans ext8;replace bx := bx.ext ext8;replace by_ := by_.ext ext8;replace bz := bz.ext ext8;replace bu := bu.ext ext8;have ho7' := ho7.rd.ext hext8;clear x0 y0;have y0 := by_.cell 0 (.bool t) rfl
  go_wp2_with fail
  go_region_held3 (fun w' => w'.cell? ⟨w.heap.size + 1, 0, none⟩ = some (.bool t)) (first | (first | (exact Ext.cellv (by assumption) (by assumption)) | (refine (cell_far2 (by omega)).trans ?_; assumption)) | go_keep)
   (first | (go_at_call_of 112 A7; refine (int_signed rfl (ho7'.ext (by first | exact Ext.refl _ | exact (Ext.refl _).drew)) hc7 hm7 hn7).mono ?_; rintro e w3 ⟨b3, A3, c3, ps, rfl, hr3, hc3, hm3, hi3, hl3, hext3⟩; have ext3 := (Ext.refl w6).drew.trans hext3) | (go_at_call_of 112 A8; refine (int_signed rfl (ho8.rd.ext ext3) hc8 hm8 hn8).mono ?_; rintro e w4 ⟨b4, A4, c4, us, rfl, hr4, hc4, hm4, hi4, hl4, hext4⟩; have ext4 := ext3.trans hext4; have bz4 := bz.ext ext4; have bu4 := bu.ext ext4; have z0 := bz4.cell 0 (.bool false) rfl; have z1 := bz4.cell 1 (.slice none 0 0) rfl; have f0 := bz4.frozen 0; have f1 := bz4.frozen 1; have u0 := bu4.cell 0 (.bool false) rfl; have u1 := bu4.cell 1 (.slice none 0 0) rfl; have g0 := bu4.frozen 0; have g1 := bu4.frozen 1))
  go_wp2_with fail
  obtain ⟨W', hW', r1, r2, r3, r4, r5, r6, r7⟩ := fin_two (b := b3) (A := A3) (n := ps.length) (c := c3) (b' := b4) (A' := A4) (n' := us.length) (c' := c4) (extN.trans ext4) (show w.heap.size <= w.heap.size + 1 + 1 by omega) (show w.heap.size <= w.heap.size + 1 + 1 + 1 by omega) (by omega) bz4 bu4 (hr3.ext hext4) hr4 _ _ _ _ rfl rfl rfl rfl;rw [<- hW'];refine bodyPost_ret (v := .tuple #[.agg #[.bool b3, .slice A3 ps.length c3], .agg #[.bool b4, .slice A4 us.length c4], .int .i64 0]) (by simp [results, Tryz.results141, go_sem, r4, r5, r6, r7]) rfl ⟨b3, A3, c3, ps, b4, A4, c4, us, _, _, rfl, r1, r2, hc3, hm3, hc4, hm4, hi3, hi4, ?_, by (simp at hl7; omega), by omega, r3⟩;have h7 := Hv7.out;have h8 := Hv8.out;rw [val_one] at h7;rw [val_trimL] at h8
  have hrp : 0 < val rs := by
   have := hn6.zero
   rcases Nat.eq_zero_or_pos (val rs) with h | h
   ·rw [this.1 h] at hrl; simp at hrl
   ·exact h
  have e := dm_far (s := s) (t := t) (x := val xs) (y := val ys) (q := val qs) (r := val rs) hrp Hdm1.out Hdm2.out hst;rw [<- h7, <- h8] at e;exact e
end
end
end Go.Proofs.YtgagcochepnelaaGreatDoor
