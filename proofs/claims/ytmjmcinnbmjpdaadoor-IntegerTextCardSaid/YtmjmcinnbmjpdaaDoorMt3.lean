/- Walks and laws, part 3. -/
import Derived.Test.YtmjmcinnbmjpdaaDoorMt2
import Derived.WalkLawsBesides
namespace Go.Proofs.YtmjmcinnbmjpdaaDoor
open Go.RowKit
theorem Tryd.infoW : (Tryd.prog.info? 43).map (fun i => (i.zero, i.size, i.bytes)) = some (some (.int .u32 0), 1, 4) := by kernel_rfl
theorem ret_cap {A : Option Addr} {n m c d : Nat} (h : n = m) (k : c = d) : Ending.returned (.slice A n c) = .returned (.slice A m d) := by rw [h, k]
/-- 'make' of n words, whichever of the two slice types. -/
theorem mk_words (T : TypeId) (hT : Tryd.prog.underlying T = some (.slice 43)) (n : Nat) (hn : n ≤ 1000000) (W : World) :
    (Instr.makeSlice T (.int .i64 (n : Int)) (.int .i64 (n : Int))).run Tryd.prog W = .ok (.slice (some ⟨W.heap.size, 0, none⟩) n n) (W.alloc (.cells (madeCells #[.int .u32 0] n) 43)) := by
  obtain ⟨i0, hi, hz0, hz1, hz2⟩ := info_parts Tryd.infoW
  have h := run_make_rowN (P := Tryd.prog) T 43 i0 (.int .u32 0) hT hi hz0 .i64 .i64 n n (Nat.le_refl _) (by rw [hz2]; omega) (by omega) W
  rw [hz1] at h
  simpa only [Nat.mul_one, Value.cells] using h
theorem mk_words1 (T : TypeId) (hT : Tryd.prog.underlying T = some (.slice 43)) (n : Nat) (hn : n ≤ 100000) (W : World) :
    (Instr.makeSlice T (.int .i64 ((n : Int) + 1)) (.int .i64 ((n : Int) + 1))).run Tryd.prog W = .ok (.slice (some ⟨W.heap.size, 0, none⟩) (n + 1) (n + 1)) (W.alloc (.cells (madeCells #[.int .u32 0] (n + 1)) 43)) :=
  mk_words T hT (n + 1) (by omega) W

section
variable (A B : Option Addr) (c d : Nat) (xs ys : List Nat) (w : World)
set_option maxHeartbeats 400000 in
theorem ref_minus1 (hx : Rd w A xs) (hy : Rd w B ys) (hl : ys.length ≤ xs.length) (hv : val ys ≤ val xs) (hm : xs.length ≤ 100000) :
    Calls Tryd.prog 54 #[.slice A xs.length c, .slice B ys.length d] w (RetN (fun zs => val zs = val xs - val ys ∧ Nrm zs ∧ zs.length ≤ xs.length) w) := by
  have hmk := mk_words 22 Tryd.underlying22 xs.length (by omega)
  have Hv := Lib.hid hv
  clear hv
  go_enter Tryd.func54, Tryd.ntmps54
  go_wp2
  go_loopw [6, 7] (fun cr i wr => ∃ (k : Nat) (zs : List Nat) (cy : Nat), k ≤ xs.length ∧ i = .int .i64 (k : Int) ∧ cr = .int .u64 (cy : Int) ∧ MinInv xs ys k zs cy ∧ BlkN wr w.heap.size zs ∧ Ext w wr) (fun _ i _ => xs.length - (intOf i).toNat)
  case atStart => exact ⟨0, List.replicate xs.length 0, 0, by omega, rfl, rfl, MinInv.start xs ys, BlkN.new w _, (Ext.refl w).alloc _⟩
  case round =>
    obtain ⟨k, zs, cy, hk, rfl, rfl, hinv, hblk, hext⟩ := hrel
    have hcy := hinv.hbw
    have hzl := hinv.len1
    have hzl2 := hinv.len2
    by_cases hlt : k < xs.length
    · obtain ⟨b, off, rfl, hb, hc1⟩ := (hx.ext hext).at_ hlt
      have hxk := hx.1.get hlt
      have hzk := hblk.cell (i := k) (by omega)
      have hfz := hblk.frozen k
      by_cases hly : k < ys.length
      · obtain ⟨b', off', rfl, hb', hc2⟩ := (hy.ext hext).at_ hly
        have hyk := hy.1.get hly
        go_wp2
        go_roundw
        case rel => exact ⟨k + 1, _, 1 - (xs[k] + 4294967296 - ys[k] - cy) / 4294967296, by omega, by go_num, by go_num, hinv.step hlt (d := (xs[k] + 4294967296 - ys[k] - cy) % 4294967296) (by omega) (by omega) (by rw [getD_at hlt, getD_at hly]; omega), hblk.set k (by go_num), hext.setCell (Nat.le_refl _) _⟩
        case measure => simp [intOf]; omega
      · go_wp2
        go_roundw
        case rel => exact ⟨k + 1, _, 1 - (xs[k] + 4294967296 - cy) / 4294967296, by omega, by go_num, by go_num, hinv.step hlt (d := (xs[k] + 4294967296 - cy) % 4294967296) (by omega) (by omega) (by rw [getD_at hlt, getD_out hly]; omega), hblk.set k (by go_num), hext.setCell (Nat.le_refl _) _⟩
        case measure => simp [intOf]; omega
    · have hk' : k = xs.length := by omega
      subst hk'
      have hrd := hblk.rd0 hinv.w32
      have Hd := Lib.hid (hinv.done hl Hv.out)
      go_wp2_with (go_at_call 28; refine (ref_trimN (xs := zs) (by omega) hrd (by omega) (by unfold maxLen; omega)).mono ?_; rintro e w' ⟨rfl, rfl⟩)
      go_ret
      have hlen := trimL_len zs
      refine ⟨_, _, trimL zs, rfl, ?_, by omega, by unfold maxLen; omega, ⟨by rw [val_trimL]; have := Hd.out; omega, Nrm.trimL _, by omega⟩, hext⟩
      rw [trimL_take]
      exact (Own.of_blk hblk hinv.w32 (Nat.le_refl _)).take _
theorem ref_minus {A B : Option Addr} {c d n m : Nat} {xs ys : List Nat} {w : World} (hn : xs.length = n) (hm : ys.length = m) (hx : Rd w A xs) (hy : Rd w B ys) (hl : m ≤ n) (hv : val ys ≤ val xs) (h1 : n ≤ 100000) :
    Calls Tryd.prog 54 #[.slice A n c, .slice B m d] w (RetN (fun zs => val zs = val xs - val ys ∧ Nrm zs ∧ zs.length ≤ xs.length) w) := by
  subst hn; subst hm
  exact ref_minus1 A B c d xs ys w hx hy hl hv h1

/-- what a call leaves that adds to the middle of a block. -/
def Turned (w : World) (g : Nat) (pre : List Nat) (n : Nat) (post : List Nat) (P : List Nat → Prop) (e : Ending) (w' : World) : Prop :=
  ∃ zs, e = .returned (.tuple #[]) ∧ zs.length = n ∧ W32 zs ∧ BlkN w' g (pre ++ zs ++ post) ∧ P zs ∧ Mod w w' g

set_option maxHeartbeats 400000 in
theorem int_addTo {g off n m cz : Nat} {pre zs0 post : List Nat} (hblk0 : BlkN w g (pre ++ zs0 ++ post)) (hoff : pre.length = off) (hn : zs0.length = n) (hw : W32 zs0) (hy : Rd w B ys) (hm : ys.length = m) (hap : Apart B ys g) (hl : m ≤ n) (h1 : n ≤ 1000000) :
    Calls Tryd.prog 58 #[.slice (some ⟨g, off, none⟩) n cz, .slice B m d] w (Turned w g pre n post fun zs => ∃ cy, cy ≤ 1 ∧ val zs + 4294967296 ^ n * cy = val zs0 + val ys) := by
  subst hm
  have Hoff := Lib.hid hoff
  have Hn := Lib.hid hn
  clear hoff hn
  go_enter Tryd.func58, Tryd.ntmps58
  go_wp2
  go_loopw [4, 10] (fun cr i wr => ∃ (k : Nat) (zs : List Nat) (cy : Nat), k ≤ ys.length ∧ i = .int .i64 (k : Int) ∧ cr = .int .u64 (cy : Int) ∧ AddInv zs0 ys k zs cy ∧ BlkN wr g (pre ++ zs ++ post) ∧ Mod w wr g) (fun _ i _ => ys.length - (intOf i).toNat)
  case atStart => exact ⟨0, zs0, 0, by omega, rfl, rfl, AddInv.start hw, hblk0, Mod.refl _ _⟩
  case round =>
    obtain ⟨k, zs, cy, hk, rfl, rfl, hinv, hblk, hmod⟩ := hrel
    have hcy := hinv.hcy
    have hzl : n ≤ zs.length := by rw [hinv.len, Hn.out]; omega
    have hzl2 : zs.length ≤ n := by rw [hinv.len, Hn.out]; omega
    by_cases hlt : k < ys.length
    · obtain ⟨b, off', rfl, hb, hc1⟩ := (hy.mod hmod hap).at_ hlt
      have hyk := hy.1.get hlt
      obtain ⟨b2, off2, he, hb2, hc2⟩ := (hblk.mid hinv.w32 Hoff.out).at_ (i := k) (by omega)
      injection he with he
      injection he with he1 he2
      subst he1; subst he2
      have hzk := hinv.w32.get (k := k) (by omega)
      have hfz := hblk.frozen (off + k)
      go_wp2
      go_roundw
      case rel => exact ⟨k + 1, _, _, by omega, by go_num, by go_num, hinv.step hw hy.1 (by omega) (s := cy + zs[k] + ys[k]) (by rw [getD_at hlt]), hblk.setMid Hoff.out (by omega) (by go_num), hmod.setCell _ _⟩
      case measure => simp [intOf]; omega
    · have hk' : k = ys.length := by omega
      subst hk'
      clear hlt hk
      go_wp2
      go_loopw [4, 7] (fun cr i wr => ∃ (k : Nat) (zs : List Nat) (cy : Nat), ys.length ≤ k ∧ k ≤ n ∧ i = .int .i64 (k : Int) ∧ cr = .int .u64 (cy : Int) ∧ AddInv zs0 ys k zs cy ∧ BlkN wr g (pre ++ zs ++ post) ∧ Mod w wr g) (fun _ i _ => n - (intOf i).toNat)
      case atStart => exact ⟨ys.length, zs, cy, by omega, by omega, rfl, rfl, hinv, hblk, hmod⟩
      case round =>
        clear hinv hblk hmod hcy hzl hzl2
        obtain ⟨k, zs, cy, hky, hk, rfl, rfl, hinv, hblk, hmod⟩ := hrel
        have hcy := hinv.hcy
        have hzl : n ≤ zs.length := by rw [hinv.len, Hn.out]; omega
        have hzl2 : zs.length ≤ n := by rw [hinv.len, Hn.out]; omega
        by_cases hc0 : cy = 0
        · have Hd := Lib.hid (hinv.done hky (by omega) (.inl hc0))
          subst hc0
          go_wp2
          go_end0
          exact ⟨zs, rfl, by omega, hinv.w32, hblk, by have h := Hd.out; rw [hinv.len, Hn.out] at h; exact h, hmod⟩
        · have hc1 : (((cy : Nat) : Int) == 0) = false := by rw [beq_eq_false_iff_ne]; omega
          have hc2 : (((cy : Nat) : Int) != 0) = true := by rw [bne_iff_ne]; omega
          by_cases hlt : k < n
          · obtain ⟨b2, off2, he, hb2, hc2⟩ := (hblk.mid hinv.w32 Hoff.out).at_ (i := k) (by omega)
            injection he with he
            injection he with he1 he2
            subst he1; subst he2
            have hzk := hinv.w32.get (k := k) (by omega)
            have hfz := hblk.frozen (off + k)
            go_wp2
            go_roundw
            case rel => exact ⟨k + 1, _, _, by omega, by omega, by go_num, by go_num, hinv.step hw hy.1 (by omega) (s := cy + zs[k]) (by rw [getD_out (by omega)]; rfl), hblk.setMid Hoff.out (by omega) (by go_num), hmod.setCell _ _⟩
            case measure => simp [intOf]; omega
          · have Hd := Lib.hid (hinv.done hky (by omega) (.inr (by omega)))
            go_wp2
            go_end0
            exact ⟨zs, rfl, by omega, hinv.w32, hblk, by have h := Hd.out; rw [hinv.len, Hn.out] at h; exact h, hmod⟩
end
end Go.Proofs.YtmjmcinnbmjpdaaDoor
namespace Go.Proofs.YtmjmcinnbmjpdaaDoor
open Go.RowKit
/-- append of words onto the new empty slice, as a step of a walk. -/
theorem wpList_append_words {w0 w : World} {ops : Array Oper} {rest : List Oper} {o : Oper} {a : Act} {Q : Exit → Act → World → Prop} (hgd : o.guard = none) (s x : Operand) (t : TypeId)
    (ho : o.op = .call { callee := .builtin .append, args := #[s, x], argTypes := #[t, t] }) (ht : Tryd.prog.underlying t = some (.slice 43))
    (he : Ext w0 w) (g : Nat) (hs : a.eval s = .slice (some ⟨g, 0, none⟩) 0 0) (hg : w.heap[g]? = some (.cells #[] 43 (0, 0))) (hg0 : w0.heap.size ≤ g)
    {A : Option Addr} {n : Nat} {xs : List Nat} {c : Nat} (hx : a.eval x = .slice A n c) (hn : xs.length = n) (hr : Rd w A xs) (hl : n ≤ 1000000)
    (h : ∀ A' c' w', Own w' w0.heap.size A' xs → n ≤ c' → c' ≤ maxLen → Ext w0 w' → wpList Tryd.prog ops Q rest (a.put o.dst (.slice A' n c')) w') : wpList Tryd.prog ops Q (o :: rest) a w := by
  subst hn
  obtain ⟨i0, hi, hz0, hz1, hz2⟩ := info_parts Tryd.infoW
  refine wpList_plain hgd fun K hK => ?_
  obtain ⟨A', c', w', hrun, h1, h2, h3, h4⟩ := run_append_words (P := Tryd.prog) t o.type i0 ht hi hz0 hz1 hz2 he g hg hg0 (c := c) hr hl
  unfold Oper.wp execOp
  simp only [ho, resolve, invoke, builtin, Sem.run_bind, Sem.run_pure, Result.andThen_ok, List.map_toArray, List.map_cons, List.map_nil, hs, hx, hrun]
  exact hK _ _ (h A' c' w' h1 h2 h3 h4)
/-- copy of words to the head of a block of the call's own, as a step of a walk. -/
theorem wpList_copy_words {w0 w : World} {ops : Array Oper} {rest : List Oper} {o : Oper} {a : Act} {Q : Exit → Act → World → Prop} (hgd : o.guard = none) (d s : Operand) (dT sT : TypeId)
    (ho : o.op = .call { callee := .builtin .copy, args := #[d, s], argTypes := #[dT, sT] }) (ht : Tryd.prog.underlying dT = some (.slice 43))
    (he : Ext w0 w) (g : Nat) {zs xs : List Nat} {n m c cd : Nat} {A : Option Addr} (hd : a.eval d = .slice (some ⟨g, 0, none⟩) n cd) (hs : a.eval s = .slice A m c) (hb : BlkN w g zs) (hg0 : w0.heap.size ≤ g)
    (hn : n = zs.length) (hm : m = xs.length) (hr : Rd w A xs) (hl : m ≤ n)
    (h : ∀ w', BlkN w' g (xs ++ zs.drop xs.length) → Ext w0 w' → wpList Tryd.prog ops Q rest (a.put o.dst (goInt xs.length)) w') : wpList Tryd.prog ops Q (o :: rest) a w := by
  subst hn; subst hm
  obtain ⟨cur, hh, htk⟩ := hb
  have hcl : zs.length ≤ cur.length := by
    have := congrArg List.length htk
    simp at this
    omega
  have hsz : (Tryd.prog.info? 43).map (·.size) = some 1 := by kernel_rfl
  refine wpList_copy_splice hgd d s dT sT ho 43 ht hsz _ _ _ _ _ _ hd hs g 0 cur 43 hh (xs.map Wd) (by rw [List.length_map]; exact (Nat.min_eq_left hl).symm) ?_ (by simp; omega) (oneCell_words xs) w0.heap.size w0 he hg0 ?_
  · intro hp
    refine ⟨rfl, ?_⟩
    cases A with
    | none =>
      obtain ⟨b, off, he, _⟩ := hr.2 (by rintro rfl; simp at hp)
      cases he
    | some ad => exact ⟨ad, rfl, cells_of_rd hr⟩
  · intro w' hw' hbl
    rw [List.length_map]
    refine h w' ⟨_, hw'.out, ?_⟩ hbl
    simp only [splice, List.take_zero, List.nil_append, Nat.zero_add, List.length_map, List.length_append, List.length_drop, List.map_append]
    rw [List.take_append, List.length_map, show xs.length + (zs.length - xs.length) - xs.length = zs.length - xs.length by omega, List.take_of_length_le (by simp), List.map_drop, ← htk, List.drop_take]
theorem eql_nil_some (T : TypeId) (hT : Tryd.prog.underlying T = some (.slice 43)) (ad : Addr) (n c : Nat) (W : World) : (binOp .eql T (.slice (some ad) n c) (.slice none 0 0)).run Tryd.prog W = .ok (.bool false) W := by
  simp only [binOp]
  simp [run_equal_slice_nil W T _ (some ad) n c hT]
theorem eql_nil_none (T : TypeId) (hT : Tryd.prog.underlying T = some (.slice 43)) (n c : Nat) (W : World) : (binOp .eql T (.slice none n c) (.slice none 0 0)).run Tryd.prog W = .ok (.bool true) W := by
  simp only [binOp]
  simp [run_equal_slice_nil W T _ none n c hT]
section
variable (A B : Option Addr) (c d : Nat) (xs ys : List Nat) (w : World)
set_option maxHeartbeats 400000 in
theorem clone {A : Option Addr} {c n : Nat} {xs : List Nat} {w : World} (hn : xs.length = n) (hx : Rd w A xs) (hl : n ≤ 1000000) :
    Calls Tryd.prog 45 #[.slice A n c] w (RetN (fun zs => zs = xs) w) := by
  have Hl := Lib.hid hl
  clear hl
  cases A with
  | none =>
    have h0 : xs = [] := by
      rcases Classical.em (xs = []) with h | h
      · exact h
      · obtain ⟨b, off, he, _⟩ := hx.2 h; cases he
    subst h0
    simp only [List.length_nil] at hn
    subst hn
    have heq := eql_nil_none 48 Tryd.underlying48 0 c
    go_enter Tryd.func45, Tryd.ntmps45
    go_wp2
    go_ret
    exact ⟨none, 0, [], rfl, ⟨W32.nil, .inl rfl⟩, by simp, by unfold maxLen; omega, rfl, Ext.refl _⟩
  | some ad =>
    have heq := eql_nil_some 48 Tryd.underlying48 ad n c
    go_enter Tryd.func45, Tryd.ntmps45
    go_wp2_with (at_builtin; refine wpList_append_words rfl _ _ _ rfl Tryd.underlying48 ((Ext.refl w).alloc _) w.heap.size rfl (heap_alloc_new w _) (Nat.le_refl _) rfl hn (hx.ext ((Ext.refl w).alloc _)) Hl.out ?_; intro A' c' w' h1 h2 h3 h4)
    go_ret
    subst hn
    exact ⟨A', c', xs, rfl, h1, h2, h3, rfl, h4⟩

set_option maxHeartbeats 1000000 in
theorem int_add1 (hx : Rd w A xs) (hy : Rd w B ys) (hl : ys.length ≤ xs.length) (hm : xs.length ≤ 100000) :
    Calls Tryd.prog 31 #[.slice A xs.length c, .slice B ys.length d] w (RetN (fun zs => val zs = val xs + val ys ∧ Nrm zs ∧ zs.length ≤ xs.length + 1) w) := by
  have hmk := mk_words1 48 Tryd.underlying48 xs.length hm
  go_enter Tryd.func31, Tryd.ntmps31
  go_wp2_with (first | (refine wpList_copy_words (w0 := w) (xs := xs) (zs := List.replicate (xs.length + 1) 0) rfl (.tmp 17) (.tmp 18) _ _ rfl Tryd.underlying48 ((Ext.refl w).alloc _) w.heap.size rfl rfl (BlkN.new w _) (Nat.le_refl _) (by simp) rfl (hx.ext ((Ext.refl w).alloc _)) (by simp) ?_; intro w1 hb1 hext1; have hb2 := Lib.hid hb1; clear hb1) | (go_at_call 58; refine (int_addTo (pre := []) (zs0 := xs ++ (List.replicate (xs.length + 1) 0).drop xs.length) (post := []) B _ ys _ (by simpa using hb2.out) rfl (by simp) (hx.1.append ((W32.replicate _).drop _)) (hy.ext hext1) rfl (hy.apart (Nat.le_refl _)) (by omega) (by omega)).mono ?_; rintro e w2 ⟨zs, rfl, hzl, hzw, hzb, ⟨cy, hcy, hval⟩, hmod⟩; have Hzl := Lib.hid hzl; have Hval := Lib.hid hval; clear hzl hval) | (go_at_call 26; refine (int_trimN (xs := zs) Hzl.out ((by simpa using hzb : BlkN w2 w.heap.size zs).rd0 hzw) (Nat.le_refl _) (by unfold maxLen; omega)).mono ?_; rintro e w3 ⟨rfl, rfl⟩))
  go_ret
  have hz := Hzl.out
  have hlen := trimL_len zs
  refine ⟨_, _, trimL zs, rfl, ?_, by omega, by unfold maxLen; omega, ⟨by rw [val_trimL]; exact add_done hx.1 hy.1 hl Hval.out, Nrm.trimL _, by omega⟩, hmod.ext hext1 (Nat.le_refl _)⟩
  rw [trimL_take]
  exact (Own.of_blk (by simpa using hzb) hzw (Nat.le_refl _)).take _
set_option maxHeartbeats 1000000 in
theorem int_add2 (hx : Rd w A xs) (hy : Rd w B ys) (hl : xs.length < ys.length) (hm : ys.length ≤ 100000) :
    Calls Tryd.prog 31 #[.slice A xs.length c, .slice B ys.length d] w (RetN (fun zs => val zs = val xs + val ys ∧ Nrm zs ∧ zs.length ≤ ys.length + 1) w) := by
  have hmk := mk_words1 48 Tryd.underlying48 ys.length hm
  go_enter Tryd.func31, Tryd.ntmps31
  go_wp2_with (first | (refine wpList_copy_words (w0 := w) (xs := ys) (zs := List.replicate (ys.length + 1) 0) rfl (.tmp 17) (.tmp 18) _ _ rfl Tryd.underlying48 ((Ext.refl w).alloc _) w.heap.size rfl rfl (BlkN.new w _) (Nat.le_refl _) (by simp) rfl (hy.ext ((Ext.refl w).alloc _)) (by simp) ?_; intro w1 hb1 hext1; have hb2 := Lib.hid hb1; clear hb1) | (go_at_call 58; refine (int_addTo (pre := []) (zs0 := ys ++ (List.replicate (ys.length + 1) 0).drop ys.length) (post := []) A _ xs _ (by simpa using hb2.out) rfl (by simp) (hy.1.append ((W32.replicate _).drop _)) (hx.ext hext1) rfl (hx.apart (Nat.le_refl _)) (by omega) (by omega)).mono ?_; rintro e w2 ⟨zs, rfl, hzl, hzw, hzb, ⟨cy, hcy, hval⟩, hmod⟩; have Hzl := Lib.hid hzl; have Hval := Lib.hid hval; clear hzl hval) | (go_at_call 26; refine (int_trimN (xs := zs) Hzl.out ((by simpa using hzb : BlkN w2 w.heap.size zs).rd0 hzw) (Nat.le_refl _) (by unfold maxLen; omega)).mono ?_; rintro e w3 ⟨rfl, rfl⟩))
  go_ret
  have hz := Hzl.out
  have hlen := trimL_len zs
  refine ⟨_, _, trimL zs, rfl, ?_, by omega, by unfold maxLen; omega, ⟨by rw [val_trimL]; exact (add_done hy.1 hx.1 (by omega) Hval.out).trans (Nat.add_comm _ _), Nrm.trimL _, by omega⟩, hmod.ext hext1 (Nat.le_refl _)⟩
  rw [trimL_take]
  exact (Own.of_blk (by simpa using hzb) hzw (Nat.le_refl _)).take _
theorem int_add {A B : Option Addr} {c d n m : Nat} {xs ys : List Nat} {w : World} (hn : xs.length = n) (hm : ys.length = m) (hx : Rd w A xs) (hy : Rd w B ys) (h1 : n ≤ 100000) (h2 : m ≤ 100000) :
    Calls Tryd.prog 31 #[.slice A n c, .slice B m d] w (RetN (fun zs => val zs = val xs + val ys ∧ Nrm zs ∧ zs.length ≤ max xs.length ys.length + 1) w) := by
  subst hn; subst hm
  by_cases h : ys.length ≤ xs.length
  · exact (int_add1 A B c d xs ys w hx hy h h1).mono fun e w' ⟨A', c', zs, h1, h2, h3, h4, ⟨h5, h6, h7⟩, h8⟩ => ⟨A', c', zs, h1, h2, h3, h4, ⟨h5, h6, by omega⟩, h8⟩
  · exact (int_add2 A B c d xs ys w hx hy (by omega) h2).mono fun e w' ⟨A', c', zs, h1, h2, h3, h4, ⟨h5, h6, h7⟩, h8⟩ => ⟨A', c', zs, h1, h2, h3, h4, ⟨h5, h6, by omega⟩, h8⟩

set_option maxHeartbeats 1000000 in
theorem int_subtractFrom {g off n m cz : Nat} {pre zs0 post : List Nat} (hblk0 : BlkN w g (pre ++ zs0 ++ post)) (hoff : pre.length = off) (hn : zs0.length = n) (hw : W32 zs0) (hy : Rd w B ys) (hm : ys.length = m) (hap : Apart B ys g) (hl : m ≤ n) (hv : val ys ≤ val zs0) (h1 : n ≤ 1000000) :
    Calls Tryd.prog 59 #[.slice (some ⟨g, off, none⟩) n cz, .slice B m d] w (Turned w g pre n post fun zs => val zs + val ys = val zs0) := by
  subst hm
  have Hoff := Lib.hid hoff
  have Hn := Lib.hid hn
  have Hv := Lib.hid hv
  clear hoff hn hv
  go_enter Tryd.func59, Tryd.ntmps59
  go_wp2
  go_loopw [4, 12] (fun cr i wr => ∃ (k : Nat) (zs : List Nat) (cy : Nat), k ≤ ys.length ∧ i = .int .i64 (k : Int) ∧ cr = .int .u64 (cy : Int) ∧ SubInv zs0 ys k zs cy ∧ BlkN wr g (pre ++ zs ++ post) ∧ Mod w wr g) (fun _ i _ => ys.length - (intOf i).toNat)
  case atStart => exact ⟨0, zs0, 0, by omega, rfl, rfl, SubInv.start hw, hblk0, Mod.refl _ _⟩
  case round =>
    obtain ⟨k, zs, cy, hk, rfl, rfl, hinv, hblk, hmod⟩ := hrel
    have hcy := hinv.hbw
    have hzl : n ≤ zs.length := by rw [hinv.len, Hn.out]; omega
    have hzl2 : zs.length ≤ n := by rw [hinv.len, Hn.out]; omega
    by_cases hlt : k < ys.length
    · obtain ⟨b, off', rfl, hb, hc1⟩ := (hy.mod hmod hap).at_ hlt
      have hyk := hy.1.get hlt
      obtain ⟨b2, off2, he, hb2, hc2⟩ := (hblk.mid hinv.w32 Hoff.out).at_ (i := k) (by omega)
      injection he with he
      injection he with he1 he2
      subst he1; subst he2
      have hzk := hinv.w32.get (k := k) (by omega)
      have hfz := hblk.frozen (off + k)
      by_cases hbor : ys[k] + cy ≤ zs[k]
      · go_wp2
        go_roundw
        case rel => exact ⟨k + 1, zs.set k (zs[k] - ys[k] - cy), 0, by omega, by go_num, by go_num, hinv.step (by omega) (by omega) (by omega) (by rw [getD_at hlt]; omega), hblk.setMid Hoff.out (by omega) (by go_num), hmod.setCell _ _⟩
        case measure => simp [intOf]; omega
      · go_wp2
        go_roundw
        case rel => exact ⟨k + 1, zs.set k (zs[k] + 4294967296 - ys[k] - cy), 1, by omega, by go_num, by rw [borrow_top hzk hyk hcy hbor]; rfl, hinv.step (by omega) (by omega) (by omega) (by rw [getD_at hlt]; omega), hblk.setMid Hoff.out (by omega) (borrow_low hzk hyk hcy hbor), hmod.setCell _ _⟩
        case measure => simp [intOf]; omega
    · have hk' : k = ys.length := by omega
      subst hk'
      clear hlt hk
      go_wp2
      go_loopw [4, 8] (fun cr i wr => ∃ (k : Nat) (zs : List Nat) (cy : Nat), ys.length ≤ k ∧ k ≤ n ∧ i = .int .i64 (k : Int) ∧ cr = .int .u64 (cy : Int) ∧ SubInv zs0 ys k zs cy ∧ BlkN wr g (pre ++ zs ++ post) ∧ Mod w wr g) (fun _ i _ => n - (intOf i).toNat)
      case atStart => exact ⟨ys.length, zs, cy, by omega, by omega, rfl, rfl, hinv, hblk, hmod⟩
      case round =>
        clear hinv hblk hmod hcy hzl hzl2
        obtain ⟨k, zs, cy, hky, hk, rfl, rfl, hinv, hblk, hmod⟩ := hrel
        have hcy := hinv.hbw
        have hzl : n ≤ zs.length := by rw [hinv.len, Hn.out]; omega
        have hzl2 : zs.length ≤ n := by rw [hinv.len, Hn.out]; omega
        by_cases hc0 : cy = 0
        · subst hc0
          have Hd := Lib.hid (hinv.done hky (by omega))
          go_wp2
          go_end0
          exact ⟨zs, rfl, by omega, hinv.w32, hblk, Hd.out, hmod⟩
        · have hlt := hinv.lt hky Hv.out hc0
          obtain rfl : cy = 1 := by omega
          obtain ⟨b2, off2, he, hb2, hc2⟩ := (hblk.mid hinv.w32 Hoff.out).at_ hlt
          injection he with he
          injection he with he1 he2
          subst he1; subst he2
          have hzk := hinv.w32.get hlt
          have hfz := hblk.frozen (off + k)
          by_cases hbor : 1 ≤ zs[k]
          · go_wp2
            go_roundw
            case rel => exact ⟨k + 1, zs.set k (zs[k] - 1), 0, by omega, by omega, by go_num, by go_num, hinv.step (by omega) (by omega) (by omega) (by rw [getD_out (by omega)]; omega), hblk.setMid Hoff.out (by omega) (by go_num), hmod.setCell _ _⟩
            case measure => simp [intOf]; omega
          · go_wp2
            go_roundw
            case rel => exact ⟨k + 1, zs.set k (zs[k] + 4294967296 - 1), 1, by omega, by omega, by go_num, by rw [borrow_top1 hzk hbor]; rfl, hinv.step (by omega) (by omega) (by omega) (by rw [getD_out (by omega)]; omega), hblk.setMid Hoff.out (by omega) (borrow_low1 hzk hbor), hmod.setCell _ _⟩
            case measure => simp [intOf]; omega

theorem int_subtractFrom0 : Calls Tryd.prog 59 #[.slice A 0 c, .slice B 0 d] w fun e w' => e = .returned (.tuple #[]) ∧ w = w' := by
  go_enter Tryd.func59, Tryd.ntmps59
  go_wp2
  go_loop [4, 12] (fun c i => c = .int .u64 0 ∧ i = .int .i64 0) (fun _ _ => 0)
  case atStart => exact ⟨rfl, rfl⟩
  case round =>
    obtain ⟨rfl, rfl⟩ := hrel
    go_wp2
    go_loop [4, 8] (fun c i => c = .int .u64 0 ∧ i = .int .i64 0) (fun _ _ => 0)
    case atStart => exact ⟨rfl, rfl⟩
    case round =>
      obtain ⟨rfl, rfl⟩ := hrel
      go_wp2
      go_end0
      exact ⟨rfl, rfl⟩
set_option maxHeartbeats 1000000 in
theorem int_subtract {A B : Option Addr} {c d n m : Nat} {xs ys : List Nat} {w : World} (hn : xs.length = n) (hm : ys.length = m) (hx : Rd w A xs) (hy : Rd w B ys) (hl : m ≤ n) (hv : val ys ≤ val xs) (h1 : n ≤ 100000) :
    Calls Tryd.prog 32 #[.slice A n c, .slice B m d] w (RetN (fun zs => val zs = val xs - val ys ∧ Nrm zs ∧ zs.length ≤ xs.length) w) := by
  have Hn := Lib.hid hn
  have Hm := Lib.hid hm
  have Hv := Lib.hid hv
  clear hn hm hv
  go_enter Tryd.func32, Tryd.ntmps32
  go_wp2_with fail
  refine (clone Hn.out hx (by omega)).mono ?_
  rintro e w1 ⟨A1, c1, zs1, rfl, ho1, hlc1, hcm1, rfl, hext1⟩
  rw [Hn.out]
  rcases ho1.2 with rfl | ⟨g, rfl, hg, hb⟩
  · have h0 : n = 0 := by rw [← Hn.out]; rfl
    subst h0
    have h0 : m = 0 := by omega
    subst h0
    have h0 := Hm.out
    have hys : ys = [] := List.eq_nil_of_length_eq_zero h0
    subst hys
    clear h0
    go_wp2_with fail
    refine (int_subtractFrom0 A1 B _ _ _).mono ?_
    rintro e w2 ⟨rfl, rfl⟩
    go_wp2_with fail
    refine (int_trimN (xs := []) rfl (Rd.nil _ _) (by omega) hcm1).mono ?_
    rintro e w3 ⟨rfl, rfl⟩
    go_wp2_with fail
    go_ret
    exact ⟨A1, c1, [], rfl, ⟨W32.nil, .inl rfl⟩, by simp, hcm1, ⟨rfl, Nrm.nil, by simp⟩, hext1⟩
  · go_wp2_with fail
    refine (int_subtractFrom (pre := []) (zs0 := zs1) (post := []) B _ ys _ (by simpa using hb) rfl Hn.out hx.1 (hy.ext hext1) Hm.out (hy.apart hg) hl Hv.out (by omega)).mono ?_
    rintro e w2 ⟨zs, rfl, hzl, hzw, hzb, hval, hmod⟩
    have Hzl := Lib.hid hzl
    have Hval := Lib.hid hval
    clear hzl hval
    simp only [List.nil_append, List.append_nil] at hzb
    go_wp2_with fail
    refine (int_trimN (xs := zs) Hzl.out (hzb.rd0 hzw) (by have := Hn.out; omega) hcm1).mono ?_
    rintro e w3 ⟨rfl, rfl⟩
    go_wp2_with fail
    go_ret
    have hlen := trimL_len zs
    have hz := Hzl.out
    have hn := Hn.out
    refine ⟨_, _, trimL zs, rfl, ?_, by omega, hcm1, ⟨by rw [val_trimL]; have := Hval.out; omega, Nrm.trimL _, by omega⟩, hmod.ext hext1 hg⟩
    rw [trimL_take]
    exact (Own.of_blk hzb hzw hg).take _
end
end Go.Proofs.YtmjmcinnbmjpdaaDoor
