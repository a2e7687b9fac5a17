/- Walks and laws, a part. -/
import Derived.Test.YtpeddoaknfjbbaaGreatDoorMd9
import Derived.Test.YtpeddoaknfjbbaaGreatDoorMd7
import Derived.Test.YtpeddoaknfjbbaaGreatDoorMd5
import Derived.Test.YtpeddoaknfjbbaaGreatDoorMd0
import Derived.Test.YtpeddoaknfjbbaaGreatDoorMd4
import Derived.Test.YtpeddoaknfjbbaaGreatDoorMd8
set_option linter.unusedSimpArgs false
set_option linter.unusedVariables false
set_option maxHeartbeats 64000000
namespace Go.Proofs.YtpeddoaknfjbbaaGreatDoor
section
open Go.RowKit
attribute [local go_sem] Oper.semAt_some
attribute [local go_sem ↓] Go.wp_at_zero Go.wp_at_succ
theorem ipol_nil {w : World} {A : Option Addr} {n c L : Nat} (hn : n <= 0) (hc : c <= maxLen) : IPol w A n c [] L := ⟨(Nat.le_zero.1 hn).symm, Nat.le_trans hn (Nat.zero_le _), hc, fun h => absurd rfl h⟩
theorem pol_nil {w : World} {A : Option Addr} {n L : Nat} (hn : n <= 0) (hc : n <= maxLen) : Pol w A n n [] L := ⟨(Nat.le_zero.1 hn).symm, Nat.le_refl _, hc, fun h => absurd rfl h⟩
structure Div0 (w W0 : World) (g4 gq gB N cr : Nat) (Ar : Option Addr) (C nr : Nat) (W : World) : Prop where
 ko : KeepsOthers W0 W
 ext : Ext w W
 base : w.heap.size <= g4
 ord : g4 + 1 + 1 < gq /\ g4 + 1 + 1 < gB
 b4 : Box W g4 22 #[.slice (some ⟨gq, 0, none⟩) N N]
 b5 : Box W (g4 + 1) 46 #[.slice Ar nr cr]
 b6 : ∃ s A n c, Box W (g4 + 1 + 1) 25 #[.bool s, .slice A n c] /\ NI W 1 C s A n c
 bB : Box W gB 22 #[.slice (some ⟨gq, 0, none⟩) N N]
section
variable {w W0 : World} {g4 gq gB N cr : Nat} {Ar : Option Addr} {C nr : Nat} {W W' : World}
theorem Div0.next (h : Div0 w W0 g4 gq gB N cr Ar C nr W) (e : Ext W W') : Div0 w W0 g4 gq gB N cr Ar C nr W' := by
 obtain ⟨h1, h2, h3, h4, h5, h7, ⟨s, A, n, c, h9, h10⟩, h14⟩ := h;exact ⟨h1.trans e.keeps, h2.trans e, h3, h4, h5.ext e, h7.ext e, ⟨s, A, n, c, h9.ext e, h10.ext e⟩, h14.ext e⟩
theorem Div0.rest (h : Div0 w W0 g4 gq gB N cr Ar C nr W) (nr' : Nat) : Div0 w W0 g4 gq gB N cr Ar C nr' (W.setCell ⟨g4 + 1, 0, none⟩ (.slice Ar nr' cr)) /\ Left W (W.setCell ⟨g4 + 1, 0, none⟩ (.slice Ar nr' cr)) (g4 + 1) := by
 obtain ⟨h1, h2, h3, h4, h5, h7, ⟨s, A, n, c, h9, h10⟩, h14⟩ := h;have F := (FinRow.refl (l := [.slice Ar nr cr]) h7 (by intro u hu k e; simp at hu; subst hu; cases e)).step 0 (v := .slice Ar nr' cr) (by intro k h; cases h);have hk := KeepsOthers.setCell W ⟨g4 + 1, 0, none⟩ (.slice Ar nr' cr);exact ⟨⟨h1.trans hk, F.ext _ h2 (by omega), h3, h4, F.far _ _ _ (by omega) h5, F.box, ⟨s, A, n, c, F.far _ _ _ (by omega) h9, F.ni _ _ _ _ _ _ h10⟩, F.far _ _ _ (by omega) h14⟩, F.ni, F.far, hk, F.ext⟩
theorem Div0.scale (h : Div0 w W0 g4 gq gB N cr Ar C nr W) {s : Bool} {A : Option Addr} {n c : Nat} (hz : NI W 1 C s A n c) : Div0 w W0 g4 gq gB N cr Ar C nr ((W.setCell ⟨g4 + 1 + 1, 0, none⟩ (.bool s)).setCell ⟨g4 + 1 + 1, 1, none⟩ (.slice A n c)) /\ Left W ((W.setCell ⟨g4 + 1 + 1, 0, none⟩ (.bool s)).setCell ⟨g4 + 1 + 1, 1, none⟩ (.slice A n c)) (g4 + 1 + 1) := by
 obtain ⟨h1, h2, h3, h4, h5, h7, ⟨s', A', n', c', h9, h10⟩, h14⟩ := h;obtain ⟨q1, q2, q3, q4⟩ := fin_dual (s := s) (A := A) (n := n) (c := c) h9;unfold set2 at q1 q2 q3 q4;have hk := (KeepsOthers.setCell W ⟨g4 + 1 + 1, 0, none⟩ (.bool s)).trans (KeepsOthers.setCell _ ⟨g4 + 1 + 1, 1, none⟩ (.slice A n c));exact ⟨⟨h1.trans hk, q3 _ h2 (by omega), h3, h4, q4 _ _ _ (by omega) h5, q4 _ _ _ (by omega) h7, ⟨s, A, n, c, q1, q2 _ _ _ _ _ _ hz⟩, q4 _ _ _ (by omega) h14⟩, q2, q4, hk, q3⟩
theorem Div0.same (h : Div0 w W0 g4 gq gB N cr Ar C nr W) : Div0 w W0 g4 gq gB N cr Ar C nr (W.setCell ⟨g4, 0, none⟩ (.slice (some ⟨gq, 0, none⟩) N N)) /\ Left W (W.setCell ⟨g4, 0, none⟩ (.slice (some ⟨gq, 0, none⟩) N N)) g4 := by
 obtain ⟨h1, h2, h3, h4, h5, h7, ⟨s, A, n, c, h9, h10⟩, h14⟩ := h;have F := (FinRow.refl (l := [.slice (some ⟨gq, 0, none⟩) N N]) h5 (by intro u hu k e; simp at hu; subst hu; cases e)).step 0 (v := .slice (some ⟨gq, 0, none⟩) N N) (by intro k h; cases h);have hk := KeepsOthers.setCell W ⟨g4, 0, none⟩ (.slice (some ⟨gq, 0, none⟩) N N);exact ⟨⟨h1.trans hk, F.ext _ h2 (by omega), h3, h4, F.box, F.far _ _ _ (by omega) h7, ⟨s, A, n, c, F.far _ _ _ (by omega) h9, F.ni _ _ _ _ _ _ h10⟩, F.far _ _ _ (by omega) h14⟩, F.ni, F.far, hk, F.ext⟩
theorem Div0.kc (h : Div0 w W0 g4 gq gB N cr Ar C nr W) {a : World} (k : Kc W W') (he : ∀ a, a.heap.size <= gB -> Ext a W -> Ext a W') (hko : KeepsOthers a W') : Div0 w a g4 gq gB N cr Ar C nr W' := by
 obtain ⟨h1, h2, h3, h4, h5, h7, ⟨s, A, n, c, h9, h10⟩, h14⟩ := h;exact ⟨hko, he _ (by omega) h2, h3, h4, h5.kc k, h7.kc k, ⟨s, A, n, c, h9.kc k, h10.kc k⟩, h14.kc k⟩
theorem Div0.rdy (h : Div0 w W0 g4 gq gB N cr Ar C nr W) (hN : N <= 0) : RdyR gB (some ⟨gq, 0, none⟩) N N W := ⟨h.bB.cell 0 _ rfl, fun i hi => by omega⟩
end
section
variable {w w' : World} {ys : List Int} {L M : Nat} {A B : Option Addr} {n c m d : Nat}
set_option maxRecDepth 100000 in
theorem p_divide0 {Q S C o N : Nat} (h : IPol w A n c [] L) (h' : IPol w B m d ys M) (hn : n <= 0) (hm0 : 0 < m) (hm : m <= 400) (ho : o + 1 = m) (hN0 : N <= 0) (hC1 : 1 <= C) :
  Calls Tryz.prog 77 #[.slice A n c, .slice B m d] w (RetDiv [] [] 1 Q S C w) := by
 have hmk := mk_rats N (by omega);have hNi : max (0 : Int) ((n : Int) - (m : Int) + 1) = (N : Int) := by omega
 have ho1 : o < m := by omega
 have ho2 : m <= o + 1 := by omega
 clear ho;refine callsIn_wide.1 (callsIn_of_wp_marks (n := 0) Tryz.func77 rfl trivial (wpIn_wide.2 ?_) rfl);simp only [Tryz.ntmps77, List.size_toArray, List.length_cons, List.length_nil, Nat.reduceAdd, Nat.reduceSub, Array.replicate_succ, Array.replicate_zero, List.push_toArray, List.append_toArray, List.nil_append, List.cons_append]
 go_upto_region 1 with (fail)
 obtain ⟨W, hW, extW, b4, b5, b6, hz⟩ := box3 w 22 46 25 #[.slice none 0 0] #[.slice none 0 0] #[Value.bool false, Value.slice none 0 0];rw [<- hW];clear hW
 go_wp2_with fail
 refine (p_cloneI (h.ext extW) (by omega)).mono ?_;rintro e V1 ⟨Ar, cr, rfl, hcp, ext1⟩
 go_wp2_with fail
 refine (p_FromInt 1 (by omega) (by omega)).mono ?_;rintro e V2 ⟨s1, A1, n1, c1, rfl, h1, ext2⟩;have ext12 := ext1.trans ext2;have z0 := (b5.ext ext12).cell 0 _ rfl;have f0 := (b5.ext ext12).frozen 0;have y0 := (b6.ext ext12).cell 0 _ rfl;have y1 := (b6.ext ext12).cell 1 _ rfl;have g0 := (b6.ext ext12).frozen 0;have g1 := (b6.ext ext12).frozen 1
 go_upto_region 2 with (fail)
 have F5 := (FinRow.refl (l := [.slice none 0 0]) (b5.ext ext12) (by intro u hu k e; simp at hu; subst hu; cases e)).step 0 (v := .slice Ar n cr) (by intro k h; cases h);have F6 := fin_dual (s := s1) (A := A1) (n := n1) (c := c1) (F5.far _ _ _ (by omega) (b6.ext ext12));refine at_world (fun V => Ext w V /\ Box V w.heap.size 22 #[.slice none 0 0] /\ Box V (w.heap.size + 1) 46 #[.slice Ar n cr] /\ Box V (w.heap.size + 1 + 1) 25 #[.bool s1, .slice A1 n1 c1] /\ NI V 1 2 s1 A1 n1 c1) ⟨F6.2.2.1 _ (F5.ext _ (extW.trans ext12) (by omega)) (by omega), F6.2.2.2 _ _ _ (by omega) (F5.far _ _ _ (by omega) (b4.ext ext12)), F6.2.2.2 _ _ _ (by omega) F5.box, F6.1, F6.2.1 _ _ _ _ _ _ (F5.ni _ _ _ _ _ _ h1)⟩ ?_;have hcap := hcp.cap;have htop := hcp.top;clear F5 F6 z0 f0 y0 y1 g0 g1 b4 b5 b6 hcp h1 ext12 ext1 ext2 extW hz;obtain ⟨g4, hg4⟩ : ∃ g, w.heap.size = g := ⟨_, rfl⟩;rw [hg4];rintro V3 ⟨ext, b4, b5, b6, h1⟩;have ha := (Ext.refl V3).alloc (.cells (zeroC N).toArray 27);have z0 := (b4.ext ha).cell 0 _ rfl;have f0 := (b4.ext ha).frozen 0
 go_upto_region 3 with (fail)
 have F4 := (FinRow.refl (l := [.slice none 0 0]) (b4.ext ha) (by intro u hu k e; simp at hu; subst hu; cases e)).step 0 (v := .slice (some ⟨V3.heap.size, 0, none⟩) N N) (by intro k h; cases h);have hgq : g4 + 1 + 1 < V3.heap.size := b6.lt;obtain ⟨gq, hgq'⟩ : ∃ g, V3.heap.size = g := ⟨_, rfl⟩;rw [hgq'] at hgq F4 ⊢;refine at_world (fun V => Ext w V /\ Box V g4 22 #[.slice (some ⟨gq, 0, none⟩) N N] /\ Box V (g4 + 1) 46 #[.slice Ar n cr] /\ Box V (g4 + 1 + 1) 25 #[.bool s1, .slice A1 n1 c1] /\ NI V 1 2 s1 A1 n1 c1) ⟨F4.ext _ (ext.trans ha) (by omega), F4.box, F4.far _ _ _ (by omega) (b5.ext ha), F4.far _ _ _ (by omega) (b6.ext ha), F4.ni _ _ _ _ _ _ (h1.ext ha)⟩ ?_;clear F4 ha z0 f0 b4 b5 b6 h1 ext hgq';rintro V4 ⟨ext, b4, b5, b6, h1⟩;have hmI : (m : Int) - 1 = (o : Int) := by omega
 have hoI : (o : Int) <= (m : Int) := by omega
 have hod : (o : Int) <= (d : Int) := by have := h'.cap; omega
 have hWo : IntKind.i64.wrap (o : Int) = (o : Int) := IntWalk.i64_in _ (by omega);refine wp_mono ?_ calm_le;have ES0 := Ext.refl V4;refine wp_region_held_drew (S := Ext V4) (by kernel_rfl) ES0.drew (fun ES => ?_);clear ES0;refine Late.start2 (x := ⟨7, 7, 25, #[Value.bool false, Value.slice none 0 0]⟩) (y := ⟨8, 8, 46, #[Value.slice none 0 0]⟩) (n := 9) ⟨_, rfl, rfl, rfl, fun a w => by go_simp⟩ ⟨_, rfl, rfl, rfl, fun a w => by go_simp⟩ (fun _ _ _ _ _ => ⟨fun h => h, fun h => h⟩) ES rfl (fun hAl hQ => ?_);refine Late.t 0 29 ?v_0 hQ ?y_0 ?_
 case y_0 => intro w' hSw;go_simp;try rfl
 try simp only [zP]
 refine Late.t 2 31 ?v_1 hQ ?y_1 ?_
 case y_1 => intro w' hSw;go_simp;try rfl
 try simp only [zP]
 refine Late.t 3 32 ?v_2 hQ ?y_2 ?_
 case y_2 => intro w' hSw;go_simp;try rfl
 try simp only [zP]
 refine Late.t 4 33 ?v_3 hQ ?y_3 ?_
 case y_3 => intro w' hSw;go_simp;try rfl
 try simp only [zP]
 refine Late.t 5 34 ?v_4 hQ ?y_4 ?_
 case y_4 => intro w' hSw;go_simp;try rfl
 try simp only [zP]
 refine Late.t 6 35 ?v_5 hQ ?y_5 ?_
 case y_5 => intro w' hSw;go_simp;try rfl
 try simp only [zP]
 refine Late.cl (i := 1) rfl hAl hQ (fun w1 e1 E1 K hK => ?_);go_simp
 (go_at_call 121; refine (p_lastN (h'.ext (ext.trans E1)) (by omega) (by omega)).mono ?_; rintro e wk1 ⟨s7, A7, n7, c7, rfl, h7, hx1⟩)
 refine hK.out _ _ hx1 ?_;clear hK K
 try simp only [zP]
 refine Late.finish2 (hAl _ (by simp)) (hAl _ (by simp)) (by decide) (by decide) (by kernel_rfl) (by kernel_rfl) (by kernel_rfl) (fun wz g5 g6 ez Ez lg5 lg6 hne xb1 xb2 => ?_);clear hAl hQ ES;have p10 := xb1.cell 0 (Value.bool false) rfl;have p11 := xb1.cell 1 (Value.slice none 0 0) rfl;have f10 := xb1.frozen 0;have f11 := xb1.frozen 1;have e4 := fin_dual (s := s7) (A := A7) (n := n7) (c := c7) xb1
 try simp only [zP]
 refine wpAnyH_ready (rs := [9]) (by kernel_rfl) (by simp) (AllReadyH.cons rfl (fun K hK => ?_) AllReadyH.nil);go_simp;refine hK.out _ _ (e4.2.2.1 _ Ez lg5) (fun _ => ?_);clear hK K
 try simp only [zP]
 refine any_world (fun U => Ext V4 U /\ Box U g5 25 #[.bool s7, .slice A7 n7 c7] /\ Box U g6 46 #[.slice none 0 0] /\ NI U (ys.getLastD 0) M s7 A7 n7 c7) ⟨e4.2.2.1 _ Ez lg5, e4.1, e4.2.2.2 _ _ _ (Ne.symm hne) xb2, e4.2.1 _ _ _ _ _ _ (h7.ext ez)⟩ ?_;clear e4 p10 p11 f10 f11 xb1 xb2 h7;rintro U ⟨EU, xb1, xb2, h7⟩;have p10 := xb2.cell 0 (Value.slice none 0 0) rfl;have f10 := xb2.frozen 0;have F8 := (FinRow.refl (l := [.slice none 0 0]) xb2 (by intro u hu k e; simp at hu; subst hu; cases e)).step 0 (v := .slice B o d) (by intro k h; cases h);refine wpAnyH_ready (rs := [10]) (by kernel_rfl) (by simp) (AllReadyH.cons rfl (fun K hK => ?_) AllReadyH.nil);go_simp;refine hK.out _ _ (F8.ext _ EU lg6) (fun _ => ?_);clear hK K
 try simp only [zP]
 refine any_world (fun U => Ext V4 U /\ Box U g5 25 #[.bool s7, .slice A7 n7 c7] /\ Box U g6 46 #[.slice B o d] /\ NI U (ys.getLastD 0) M s7 A7 n7 c7) ⟨F8.ext _ EU lg6, F8.far _ _ _ hne xb1, F8.box, F8.ni _ _ _ _ _ _ h7⟩ ?_;clear F8 p10 f10 xb1 xb2 h7 EU;rintro U ⟨EU, b7, b8, h7⟩;refine wpAnyH_done (by kernel_rfl) ?_ _;refine calm_normal ?_;have hlt7 := b7.lt;have hlt8 := b8.lt;replace b4 := b4.ext EU;replace b5 := b5.ext EU;replace b6 := b6.ext EU;replace h1 := h1.ext EU;replace ext := ext.trans EU;clear EU;have z0 := b4.cell 0 _ rfl
 go_wp2_with fail
 refine (p_backR (some ⟨gq, 0, none⟩) N N _).mono ?_;rintro e V ⟨rfl, rfl⟩;obtain ⟨V5, hV5, ext5, bB, hz5⟩ := box1 U 22 #[.slice (some ⟨gq, 0, none⟩) N N];rw [<- hV5];obtain ⟨gB, hgB⟩ : ∃ g, U.heap.size = g := ⟨_, rfl⟩;rw [hgB] at bB hlt7 hlt8
 try rw [hgB]
 have hgB2 : g4 + 1 + 1 < gB := by have := b6.lt; omega
 clear hV5 hz5 z0;have hinv : Div0 w V5 g4 gq gB N cr Ar C n V5 := ⟨KeepsOthers.refl _, ext.trans ext5, Nat.le_of_eq hg4, ⟨hgq, hgB2⟩, b4.ext ext5, b5.ext ext5, ⟨s1, A1, n1, c1, b6.ext ext5, (h1.ext ext5).tight' (Nat.lt_of_lt_of_le (show (1 : Int).natAbs < 4294967296 ^ 1 by decide) (Nat.pow_le_pow_right (by decide) hC1))⟩, bB⟩;have hVB := bB.lt;have hw5 := hinv.ext.size;clear ext5 b4 b5 b6 h1 bB b7 b8 h7 ext
 go_wp2_with fail
 refine wp_back (N := N) (gf := 146) (lb := #[.pointer (some ⟨gB, 0, none⟩)]) rfl (enters_of Tryz.func146 (by kernel_rfl) rfl) (Rdy := RdyR gB (some ⟨gq, 0, none⟩) N N) (El := ElR (some ⟨gq, 0, none⟩) N) (fun l J W hJ hY h0 => back_R (by omega) hJ hY h0) (fun _ W => Div0 w W g4 gq gB N cr Ar C n W) (fun _ _ _ _ _ => True) (kc_own fun _ W W' kc he h => h.kc kc (fun a ha => he a (by omega)) (KeepsOthers.refl _)) (fun _ _ _ => ownFrom_pure _ (fun _ => True)) (fun _ W hI => hI.rdy hN0) (fun k args W he => by obtain ⟨i, _, b, off, s, A', m, d, t, B', m', d', _, rfl, _⟩ := he; rfl) hinv ?assign ?body ?done
 case assign =>
  intro l k args W _ hk _;omega
 case body =>
  intro l k args a' W hk;omega
 case done =>
  rintro D W hD hI hd;have HTL := Lib.hid htop;obtain ⟨z0, hz0⟩ : ∃ z, (trimI ([] : List Int)).length = z := ⟨_, rfl⟩;have hz1 : z0 <= 0 := Nat.le_of_eq (hz0.symm.trans rfl);have HZL := Lib.hid hz0;clear hz0
  go_wp2_with fail
  refine wp_mono ?_ calm_le;refine wpL.st 4 (fun hQ ES => ?_);refine wpL.tB [4] 0 113 ?v_6 hQ ?y_6 ES ?_
  case y_6 => intro w' hSw;have j0 := (hI.next hSw).b4.cell 0 _ rfl;have j1 := (hI.next hSw).b5.cell 0 _ rfl;go_simp;try rfl
  try simp only [zP]
  refine wpL.tB [2,4] 1 114 ?v_7 hQ ?y_7 ES ?_
  case y_7 => intro w' hSw;have j0 := (hI.next hSw).b4.cell 0 _ rfl;have j1 := (hI.next hSw).b5.cell 0 _ rfl;go_simp;try rfl
  try simp only [zP]
  have hI0 := hI;replace hI := hI.next ES;obtain ⟨ss, As, ns, cs, b6, hsc⟩ := hI.b6;refine wpL.two (i := 2) (j := 3) rfl rfl (by kernel_rfl) (fun K hK => ?_) (fun K hK => ?_)
  ·go_simp
   (go_at_call 109; refine (p_cutI_same ((ipol_nil hn HTL.out : IPol _ Ar n cr [] 400)) (by omega) (by omega)).mono ?_; rintro e wa ⟨rfl, hx0⟩; rw [HZL.out]; have E2 := Ext.trans ES hx0)
   refine hK.out _ _ (Or.inr E2) ?_;clear hK K
   try simp only [zP]
   replace hI := hI.next hx0;replace b6 := b6.ext hx0;replace hsc := hsc.ext hx0;clear hx0;have p0 := hI.b4.cell 0 _ rfl;have f0 := hI.b4.frozen 0;refine wpL.two (i := 3) (j := 4) rfl rfl (by kernel_rfl) (fun K hK => ?_) (fun K hK => ?_)
   ·have k0 := b6.cell 0 _ rfl
    have k1 := b6.cell 1 _ rfl;go_simp;refine hK.out _ _ (Or.inr E2) ?_;clear hK K k0 k1
    try simp only [zP]
    refine wpL.tl (i := 4) rfl (fun K hK => ?_);go_simp;refine hK.out _ _ ?_;clear hK K;have PP := hI.same;refine at_wpLx (fun V => Div0 w W g4 gq gB N cr Ar C n V /\ Box V (g4 + 1 + 1) 25 #[.bool ss, .slice As ns cs] /\ NI V 1 C ss As ns cs) ⟨PP.1, PP.2.far _ _ _ (by omega) b6, PP.2.ni _ _ _ _ _ _ hsc⟩ ?_;clear PP p0 f0 hI b6 hsc;rintro V1 ⟨hI, b6, hsc⟩;have p0 := hI.b5.cell 0 _ rfl;have f0 := hI.b5.frozen 0
    try simp only [zP]
    refine wpL.tl (i := 5) rfl (fun K hK => ?_);go_simp;refine hK.out _ _ ?_;clear hK K;have PP := hI.rest z0;refine at_wpLx (fun V => Div0 w W g4 gq gB N cr Ar C z0 V /\ Box V (g4 + 1 + 1) 25 #[.bool ss, .slice As ns cs] /\ NI V 1 C ss As ns cs) ⟨PP.1, PP.2.far _ _ _ (by omega) b6, PP.2.ni _ _ _ _ _ _ hsc⟩ ?_;clear PP p0 f0 hI b6 hsc;rintro V2 ⟨hI, b6, hsc⟩
    try simp only [zP]
    have k0 := b6.cell 0 _ rfl;have k1 := b6.cell 1 _ rfl;have f0 := b6.frozen 0;have f1 := b6.frozen 1;refine wpL.tl (i := 6) rfl (fun K hK => ?_);go_simp;refine hK.out _ _ ?_;clear hK K;have PP := hI.scale hsc
    try simp only [zP]
    refine wpL.done (by kernel_rfl) ?_ _;refine calm_normal ?_;refine at_exit (fun V => Div0 w W g4 gq gB N cr Ar C z0 V) PP.1 ?_;clear PP k0 k1 f0 f1 hI b6 hsc;rintro V3 hI
    go_wp2_with fail
    have hd2 := hI.ko.same D _ hd rfl;have hkc := Kc.putObj (w := V3) (.deferred none) hd2 rfl;obtain ⟨s8, A8, n8, c8, b6, hsc⟩ := hI.b6;have r0 := (hI.b4.kc hkc).cell 0 _ rfl;have r1 := (hI.b5.kc hkc).cell 0 _ rfl;have r2 := (b6.kc hkc).cell 0 _ rfl;have r3 := (b6.kc hkc).cell 1 _ rfl;refine ⟨by simp, .inl ⟨_, _, rfl, run_takeDeferred hd2, ?_⟩⟩;refine ⟨.tuple #[.slice (some ⟨gq, 0, none⟩) N N, .slice Ar z0 cr, .agg #[.bool s8, .slice A8 n8 c8]], by simp [results, Tryz.results77, go_sem, r0, r1, r2, r3], _, _, _, _, _, _, s8, A8, n8, c8, rfl, ?_, ?_, hsc.kc hkc, ?_⟩
    ·exact pol_nil hN0 (by unfold maxLen; omega)
    ·exact ipol_nil hz1 HTL.out
    ·exact hI.ext.own (B := w.heap.size) (grownBy_putObj' _ _ _) (fun r e => by cases e; exact ⟨Nat.le_trans hw5 hD, _, hd2, rfl⟩) (Nat.le_refl _)
   ·go_simp
    refine hK.out _ _ (Or.inl (by kernel_rfl)) ?_;clear hK K;have PP := hI.same;refine at_wpLx (fun V => Div0 w W g4 gq gB N cr Ar C n V /\ Box V (g4 + 1 + 1) 25 #[.bool ss, .slice As ns cs] /\ NI V 1 C ss As ns cs) ⟨PP.1, PP.2.far _ _ _ (by omega) b6, PP.2.ni _ _ _ _ _ _ hsc⟩ ?_;clear PP p0 f0 hI b6 hsc;rintro V1 ⟨hI, b6, hsc⟩;have p0 := hI.b5.cell 0 _ rfl;have f0 := hI.b5.frozen 0
    try simp only [zP]
    refine wpL.two (i := 3) (j := 5) rfl rfl (by kernel_rfl) (fun K hK => ?_) (fun K hK => ?_)
    ·have k0 := b6.cell 0 _ rfl
     have k1 := b6.cell 1 _ rfl;go_simp;refine hK.out _ _ (Or.inl (by kernel_rfl)) ?_;clear hK K k0 k1
     try simp only [zP]
     refine wpL.tl (i := 5) rfl (fun K hK => ?_);go_simp;refine hK.out _ _ ?_;clear hK K;have PP := hI.rest z0;refine at_wpLx (fun V => Div0 w W g4 gq gB N cr Ar C z0 V /\ Box V (g4 + 1 + 1) 25 #[.bool ss, .slice As ns cs] /\ NI V 1 C ss As ns cs) ⟨PP.1, PP.2.far _ _ _ (by omega) b6, PP.2.ni _ _ _ _ _ _ hsc⟩ ?_;clear PP p0 f0 hI b6 hsc;rintro V2 ⟨hI, b6, hsc⟩
     try simp only [zP]
     have k0 := b6.cell 0 _ rfl;have k1 := b6.cell 1 _ rfl;have f0 := b6.frozen 0;have f1 := b6.frozen 1;refine wpL.tl (i := 6) rfl (fun K hK => ?_);go_simp;refine hK.out _ _ ?_;clear hK K;have PP := hI.scale hsc
     try simp only [zP]
     refine wpL.done (by kernel_rfl) ?_ _;refine calm_normal ?_;refine at_exit (fun V => Div0 w W g4 gq gB N cr Ar C z0 V) PP.1 ?_;clear PP k0 k1 f0 f1 hI b6 hsc;rintro V3 hI
     go_wp2_with fail
     have hd2 := hI.ko.same D _ hd rfl;have hkc := Kc.putObj (w := V3) (.deferred none) hd2 rfl;obtain ⟨s8, A8, n8, c8, b6, hsc⟩ := hI.b6;have r0 := (hI.b4.kc hkc).cell 0 _ rfl;have r1 := (hI.b5.kc hkc).cell 0 _ rfl;have r2 := (b6.kc hkc).cell 0 _ rfl;have r3 := (b6.kc hkc).cell 1 _ rfl;refine ⟨by simp, .inl ⟨_, _, rfl, run_takeDeferred hd2, ?_⟩⟩;refine ⟨.tuple #[.slice (some ⟨gq, 0, none⟩) N N, .slice Ar z0 cr, .agg #[.bool s8, .slice A8 n8 c8]], by simp [results, Tryz.results77, go_sem, r0, r1, r2, r3], _, _, _, _, _, _, s8, A8, n8, c8, rfl, ?_, ?_, hsc.kc hkc, ?_⟩
     ·exact pol_nil hN0 (by unfold maxLen; omega)
     ·exact ipol_nil hz1 HTL.out
     ·exact hI.ext.own (B := w.heap.size) (grownBy_putObj' _ _ _) (fun r e => by cases e; exact ⟨Nat.le_trans hw5 hD, _, hd2, rfl⟩) (Nat.le_refl _)
    ·go_simp
     refine hK.out _ _ (Or.inl (by kernel_rfl)) ?_;clear hK K;have PP := hI.rest z0;refine at_wpLx (fun V => Div0 w W g4 gq gB N cr Ar C z0 V /\ Box V (g4 + 1 + 1) 25 #[.bool ss, .slice As ns cs] /\ NI V 1 C ss As ns cs) ⟨PP.1, PP.2.far _ _ _ (by omega) b6, PP.2.ni _ _ _ _ _ _ hsc⟩ ?_;clear PP p0 f0 hI b6 hsc;rintro V2 ⟨hI, b6, hsc⟩
     try simp only [zP]
     refine wpL.tl (i := 3) rfl (fun K hK => ?_);have k0 := b6.cell 0 _ rfl;have k1 := b6.cell 1 _ rfl;go_simp;refine hK.out _ _ ?_;clear hK K k0 k1
     try simp only [zP]
     have k0 := b6.cell 0 _ rfl;have k1 := b6.cell 1 _ rfl;have f0 := b6.frozen 0;have f1 := b6.frozen 1;refine wpL.tl (i := 6) rfl (fun K hK => ?_);go_simp;refine hK.out _ _ ?_;clear hK K;have PP := hI.scale hsc
     try simp only [zP]
     refine wpL.done (by kernel_rfl) ?_ _;refine calm_normal ?_;refine at_exit (fun V => Div0 w W g4 gq gB N cr Ar C z0 V) PP.1 ?_;clear PP k0 k1 f0 f1 hI b6 hsc;rintro V3 hI
     go_wp2_with fail
     have hd2 := hI.ko.same D _ hd rfl;have hkc := Kc.putObj (w := V3) (.deferred none) hd2 rfl;obtain ⟨s8, A8, n8, c8, b6, hsc⟩ := hI.b6;have r0 := (hI.b4.kc hkc).cell 0 _ rfl;have r1 := (hI.b5.kc hkc).cell 0 _ rfl;have r2 := (b6.kc hkc).cell 0 _ rfl;have r3 := (b6.kc hkc).cell 1 _ rfl;refine ⟨by simp, .inl ⟨_, _, rfl, run_takeDeferred hd2, ?_⟩⟩;refine ⟨.tuple #[.slice (some ⟨gq, 0, none⟩) N N, .slice Ar z0 cr, .agg #[.bool s8, .slice A8 n8 c8]], by simp [results, Tryz.results77, go_sem, r0, r1, r2, r3], _, _, _, _, _, _, s8, A8, n8, c8, rfl, ?_, ?_, hsc.kc hkc, ?_⟩
     ·exact pol_nil hN0 (by unfold maxLen; omega)
     ·exact ipol_nil hz1 HTL.out
     ·exact hI.ext.own (B := w.heap.size) (grownBy_putObj' _ _ _) (fun r e => by cases e; exact ⟨Nat.le_trans hw5 hD, _, hd2, rfl⟩) (Nat.le_refl _)
  ·have k0 := b6.cell 0 _ rfl
   have k1 := b6.cell 1 _ rfl;go_simp;refine hK.out _ _ (Or.inr ES) ?_;clear hK K k0 k1
   try simp only [zP]
   refine wpL.cl (i := 2) rfl (fun K hK => ?_);go_simp
   (go_at_call 109; refine (p_cutI_same ((ipol_nil hn HTL.out : IPol _ Ar n cr [] 400)) (by omega) (by omega)).mono ?_; rintro e wa ⟨rfl, hx0⟩; rw [HZL.out]; have E2 := Ext.trans ES hx0)
   refine hK.out _ _ E2 ?_;clear hK K
   try simp only [zP]
   replace hI := hI.next hx0;replace b6 := b6.ext hx0;replace hsc := hsc.ext hx0;clear hx0;have p0 := hI.b4.cell 0 _ rfl;have f0 := hI.b4.frozen 0;refine wpL.tl (i := 4) rfl (fun K hK => ?_);go_simp;refine hK.out _ _ ?_;clear hK K;have PP := hI.same;refine at_wpLx (fun V => Div0 w W g4 gq gB N cr Ar C n V /\ Box V (g4 + 1 + 1) 25 #[.bool ss, .slice As ns cs] /\ NI V 1 C ss As ns cs) ⟨PP.1, PP.2.far _ _ _ (by omega) b6, PP.2.ni _ _ _ _ _ _ hsc⟩ ?_;clear PP p0 f0 hI b6 hsc;rintro V1 ⟨hI, b6, hsc⟩;have p0 := hI.b5.cell 0 _ rfl;have f0 := hI.b5.frozen 0
   try simp only [zP]
   refine wpL.tl (i := 5) rfl (fun K hK => ?_);go_simp;refine hK.out _ _ ?_;clear hK K;have PP := hI.rest z0;refine at_wpLx (fun V => Div0 w W g4 gq gB N cr Ar C z0 V /\ Box V (g4 + 1 + 1) 25 #[.bool ss, .slice As ns cs] /\ NI V 1 C ss As ns cs) ⟨PP.1, PP.2.far _ _ _ (by omega) b6, PP.2.ni _ _ _ _ _ _ hsc⟩ ?_;clear PP p0 f0 hI b6 hsc;rintro V2 ⟨hI, b6, hsc⟩
   try simp only [zP]
   have k0 := b6.cell 0 _ rfl;have k1 := b6.cell 1 _ rfl;have f0 := b6.frozen 0;have f1 := b6.frozen 1;refine wpL.tl (i := 6) rfl (fun K hK => ?_);go_simp;refine hK.out _ _ ?_;clear hK K;have PP := hI.scale hsc
   try simp only [zP]
   refine wpL.done (by kernel_rfl) ?_ _;refine calm_normal ?_;refine at_exit (fun V => Div0 w W g4 gq gB N cr Ar C z0 V) PP.1 ?_;clear PP k0 k1 f0 f1 hI b6 hsc;rintro V3 hI
   go_wp2_with fail
   have hd2 := hI.ko.same D _ hd rfl;have hkc := Kc.putObj (w := V3) (.deferred none) hd2 rfl;obtain ⟨s8, A8, n8, c8, b6, hsc⟩ := hI.b6;have r0 := (hI.b4.kc hkc).cell 0 _ rfl;have r1 := (hI.b5.kc hkc).cell 0 _ rfl;have r2 := (b6.kc hkc).cell 0 _ rfl;have r3 := (b6.kc hkc).cell 1 _ rfl;refine ⟨by simp, .inl ⟨_, _, rfl, run_takeDeferred hd2, ?_⟩⟩;refine ⟨.tuple #[.slice (some ⟨gq, 0, none⟩) N N, .slice Ar z0 cr, .agg #[.bool s8, .slice A8 n8 c8]], by simp [results, Tryz.results77, go_sem, r0, r1, r2, r3], _, _, _, _, _, _, s8, A8, n8, c8, rfl, ?_, ?_, hsc.kc hkc, ?_⟩
   ·exact pol_nil hN0 (by unfold maxLen; omega)
   ·exact ipol_nil hz1 HTL.out
   ·exact hI.ext.own (B := w.heap.size) (grownBy_putObj' _ _ _) (fun r e => by cases e; exact ⟨Nat.le_trans hw5 hD, _, hd2, rfl⟩) (Nat.le_refl _)
theorem p_divideA {xs : List Int} {S C o N : Nat} {lead : Int} {os : List Int} (h : IPol w A n c xs L) (h' : IPol w B m d ys M) (hm0 : 0 < m) (hn : n <= 400) (hm : m <= 400) (hL : L <= S) (hM : M < 64) (ho : o + 1 = m) (hN : N = n - o) (hos : os = ys.take o) (hlead : lead = ys.getLastD 0) (hl0 : lead ≠ 0) (hD : DivB xs os lead N S C) (hS : S <= 1000) (hC : C <= 1000) (hC1 : 1 <= C) (hT : Tab w) :
  Calls Tryz.prog 77 #[.slice A n c, .slice B m d] w (RetDiv (divS xs os lead N N).2.2 (trimI ((divS xs os lead N N).1.take (n - N))) (divS xs os lead N N).2.1 (S + C + M) S C w) := by
 rcases Nat.eq_zero_or_pos n with h0 | h0
 ·subst h0
  have hx : xs = [] := List.length_eq_zero_iff.1 h.len;subst hx;have hN' : N = 0 := by omega
  subst hN';exact p_divide0 h h' (Nat.le_refl _) hm0 hm ho (Nat.le_refl _) hC1
 ·exact p_divideP h h' h0 hm0 hn hm hL hM ho hN hos hlead hl0 hD hS hC hC1 hT
end
end
section
open Go.RowKit
attribute [local go_sem ↓] Go.wp_at_zero Go.wp_at_succ
section
variable {w w' : World} {q x : Rat} {L M : Nat} {s t : Bool} {A B : Option Addr} {n c m d : Nat} {sx tx : Bool} {Ax Bx : Option Addr} {nx cx mx dx : Nat} {qs ps : List Rat}
theorem p_cloneR (h : NR w q L s A n c t B m d) (hL : L <= 100000) : Calls Tryz.prog 50 #[.agg #[.bool s, .slice A n c, .bool t, .slice B m d]] w (RetNR q L w) := by
 go_enter Tryz.func50, Tryz.ntmps50
 go_upto_region 1 with (fail)
 obtain ⟨W, hW, extW, bx, bz, hz⟩ := box2 w 27 27 #[.bool s, .slice A n c, .bool t, .slice B m d] #[Value.bool false, Value.slice none 0 0, Value.bool false, Value.slice none 0 0];rw [<- hW];clear hW;refine wpL.st 7 (fun hQ ES => ?_);refine wpL.t 0 3 ?v_0 hQ ?y_0 ES ?_
 case y_0 => intro w' hSw;go_simp;try rfl
 try simp only [zP]
 refine wpL.t 3 6 ?v_1 hQ ?y_1 ES ?_
 case y_1 => intro w' hSw;go_simp;try rfl
 try simp only [zP]
 refine wpL.t 1 4 ?v_2 hQ ?y_2 ES ?_
 case y_2 => intro w' hSw;have k00 := (bx.ext hSw).c4;go_simp;try rfl
 try simp only [zP]
 refine wpL.t 4 7 ?v_3 hQ ?y_3 ES ?_
 case y_3 => intro w' hSw;have k00 := (bx.ext hSw).c4;go_simp;try rfl
 try simp only [zP]
 refine wpL.cl (i := 2) rfl (fun K hK => ?_);go_simp
 (go_at_call 95; refine (p_Norm (h.num.ext (extW.trans ES)) hL).mono ?_; rintro e wa ⟨s1, A1, n1, c1, rfl, h1, hx0⟩; have E0_1 := Ext.trans ES hx0)
 refine hK.out _ _ E0_1 ?_;clear hK K
 try simp only [zP]
 refine wpL.cl (i := 5) rfl (fun K hK => ?_);go_simp
 (go_at_call 95; refine (p_Norm (h.den.ext (extW.trans E0_1)) hL).mono ?_; rintro e wb ⟨s2, A2, n2, c2, rfl, h2, hx1⟩; have E1_1 := Ext.trans E0_1 hx1)
 refine hK.out _ _ E1_1 ?_;clear hK K
 try simp only [zP]
 refine wpL.t 6 9 ?v_4 hQ ?y_4 E1_1 ?_
 case y_4 => intro w' hSw;go_simp;try rfl
 try simp only [zP]
 have z0 := (bz.ext E1_1).cell 0 _ rfl;have z1 := (bz.ext E1_1).cell 1 _ rfl;have z2 := (bz.ext E1_1).cell 2 _ rfl;have z3 := (bz.ext E1_1).cell 3 _ rfl;have f0 := (bz.ext E1_1).frozen 0;have f1 := (bz.ext E1_1).frozen 1;have f2 := (bz.ext E1_1).frozen 2;have f3 := (bz.ext E1_1).frozen 3;refine wpL.tl (i := 7) rfl (fun K hK => ?_);go_simp;refine hK.out _ _ ?_;clear hK K
 try simp only [zP]
 refine wpL.done (by kernel_rfl) ?_ _;clear hQ
 go_wp2_with fail
 obtain ⟨b1, b2, b3, b4⟩ := fin_quad (s := s1) (A := A1) (n := n1) (c := c1) (t := s2) (B := A2) (m := n2) (d := c2) (bz.ext E1_1);have r0 := b1.cell 0 (.bool s1) rfl;have r1 := b1.cell 1 (.slice A1 n1 c1) rfl;have r2 := b1.cell 2 (.bool s2) rfl;have r3 := b1.cell 3 (.slice A2 n2 c2) rfl;unfold set4 at r0 r1 r2 r3;refine bodyPost_ret (v := .agg #[.bool s1, .slice A1 n1 c1, .bool s2, .slice A2 n2 c2]) (by simp [results, Tryz.results50, go_sem, r0, r1, r2, r3]) rfl ⟨s1, A1, n1, c1, s2, A2, n2, c2, rfl, ⟨?_, ?_⟩, b3 _ (extW.trans E1_1) (by omega)⟩
 ·exact b2 _ _ _ _ _ _ (h1.ext hx1)
 ·exact b2 _ _ _ _ _ _ h2
end
section
variable {w w' : World} {q x : Rat} {L M : Nat} {s t : Bool} {A B : Option Addr} {n c m d : Nat} {sx tx : Bool} {Ax Bx : Option Addr} {nx cx mx dx : Nat} {qs ps : List Rat}
theorem p_Scale1 {g : Nat} (h : NR w q L sx Ax nx cx tx Bx mx dx) (k : NR w x M s A n c t B m d) (hb : Box w g 27 #[.bool s, .slice A n c, .bool t, .slice B m d]) (hL : L <= 900) (hM : M <= 60) (hT : Tab w) : Calls Tryz.prog 58 #[.agg #[.bool sx, .slice Ax nx cx, .bool tx, .slice Bx mx dx], .pointer (some ⟨g, 0, none⟩)] w (RetNR (q * x) (L + M) w) := by
 go_enter Tryz.func58, Tryz.ntmps58
 go_upto_region 1 with (fail)
 obtain ⟨W, hW, extW, bx, bz, hz⟩ := box2 w 27 27 #[.bool sx, .slice Ax nx cx, .bool tx, .slice Bx mx dx] #[Value.bool false, Value.slice none 0 0, Value.bool false, Value.slice none 0 0];rw [<- hW];clear hW;have hb1 := hb.ext extW;have x0 := bx.cell 0 (.bool sx) rfl;have x1 := bx.cell 1 (.slice Ax nx cx) rfl;have x2 := bx.cell 2 (.bool tx) rfl;have x3 := bx.cell 3 (.slice Bx mx dx) rfl;have y0 := hb1.cell 0 (.bool s) rfl;have y1 := hb1.cell 1 (.slice A n c) rfl;have y2 := hb1.cell 2 (.bool t) rfl;have y3 := hb1.cell 3 (.slice B m d) rfl
 go_wp2_with fail
 refine (p_MulR (h.ext extW) (k.ext extW) (by omega) (by omega) (by omega) (hT.ext extW)).mono ?_;rintro e V ⟨s7, A7, n7, c7, t7, B7, m7, d7, rfl, h7, hxt⟩;clear x0 x1 x2 x3 y0 y1 y2 y3;have z0 := (bz.ext hxt).cell 0 _ rfl;have z1 := (bz.ext hxt).cell 1 _ rfl;have z2 := (bz.ext hxt).cell 2 _ rfl;have z3 := (bz.ext hxt).cell 3 _ rfl;have f0 := (bz.ext hxt).frozen 0;have f1 := (bz.ext hxt).frozen 1;have f2 := (bz.ext hxt).frozen 2;have f3 := (bz.ext hxt).frozen 3
 go_wp2_with fail
 obtain ⟨b1, b2, b3, b4⟩ := fin_quad (s := s7) (A := A7) (n := n7) (c := c7) (t := t7) (B := B7) (m := m7) (d := d7) (bz.ext hxt);have r0 := b1.cell 0 (.bool s7) rfl;have r1 := b1.cell 1 (.slice A7 n7 c7) rfl;have r2 := b1.cell 2 (.bool t7) rfl;have r3 := b1.cell 3 (.slice B7 m7 d7) rfl;unfold set4 at r0 r1 r2 r3;refine bodyPost_ret (v := .agg #[.bool s7, .slice A7 n7 c7, .bool t7, .slice B7 m7 d7]) (by simp [results, Tryz.results58, go_sem, r0, r1, r2, r3]) rfl ⟨s7, A7, n7, c7, t7, B7, m7, d7, rfl, ⟨?_, ?_⟩, b3 _ (extW.trans hxt) (by omega)⟩
 ·exact b2 _ _ _ _ _ _ h7.num
 ·exact b2 _ _ _ _ _ _ h7.den
variable {sy ty : Bool} {Ay By : Option Addr} {ny cy my dy : Nat}
set_option maxRecDepth 100000 in
theorem p_each_Scale (h : Pol w A n c qs L) (hL : L <= 900) (hn : n <= 1000) {gy : Nat} {p : Rat} (hnum : NR w p M sy Ay ny cy ty By my dy) (hb : Box w gy 27 #[.bool sy, .slice Ay ny cy, .bool ty, .slice By my dy]) (hM : M <= 60) (hT : Tab w) : Calls Tryz.prog 49 #[.slice A n c, (.func (.func 58) #[] #[.pointer (some ⟨gy, 0, none⟩)])] w (RetPol (trimP (qs.map (fun x => x * p))) (L + M) w) := by
 have hmk := mk_rats n (by omega);have Hlen := Lib.hid h.len
 go_enter Tryz.func49, Tryz.ntmps49
 go_wp2_with fail
 go_loopw [13] (fun i wr => ∃ k : Nat, k <= n /\ i = .int .i64 (k : Int) /\ Ext w wr /\ Fill wr w.heap.size n ((qs.take k).map (fun x => x * p)) (L + M)) (fun i _ => n - (intOf i).toNat)
 case atStart => exact ⟨0, Nat.zero_le _, rfl, (Ext.refl w).alloc _, Fill.new w n _⟩
 case round =>
  obtain ⟨k, hk, rfl, ext, hF⟩ := hrel
  by_cases hlt : k < n
  ·have hj : k < qs.length := by rw [Hlen.out]; exact hlt
   obtain ⟨b, off, rfl, hr⟩ := h.at_ (fun e => by rw [e] at hj; exact absurd hj (Nat.not_lt_zero _));obtain ⟨sx, Ax, nx, cx, tx, Bx, mx, dx, e0, e1, e2, e3, hx⟩ := (hr.ext ext).at_ k hj;have e0' : wr.cell? ⟨b, off + k * 4, none⟩ = some (.bool sx) := by rw [Nat.mul_comm]; exact e0
   have e1' : wr.cell? ⟨b, off + k * 4 + 1, none⟩ = some (.slice Ax nx cx) := by rw [Nat.mul_comm]; exact e1
   have e2' : wr.cell? ⟨b, off + k * 4 + 2, none⟩ = some (.bool tx) := by rw [Nat.mul_comm]; exact e2
   have e3' : wr.cell? ⟨b, off + k * 4 + 3, none⟩ = some (.slice Bx mx dx) := by rw [Nat.mul_comm]; exact e3
   have HT := Lib.hid (show (qs.take (k + 1)).map (fun x => x * p) = (qs.take k).map (fun x => x * p) ++ [(fun x => x * p) qs[k]] by rw [List.take_succ_eq_append_getElem hj, List.map_append]; rfl);have hkl : ((qs.take k).map (fun x => x * p)).length = k := by rw [List.length_map, List.length_take, Hlen.out]; omega
   go_upto_region 5 with (fail)
   obtain ⟨W2, hW2, ext2, b9, hz2⟩ := box1 wr 27 #[.bool sx, .slice Ax nx cx, .bool tx, .slice Bx mx dx];rw [<- hW2];clear hW2 hz2 e0 e1 e2 e3 e0' e1' e2' e3';replace hx := hx.ext ext2;replace hF := hF.ext ext2;replace ext := ext.trans ext2;clear ext2;have x0 := b9.cell 0 (.bool sx) rfl;have x1 := b9.cell 1 (.slice Ax nx cx) rfl;have x2 := b9.cell 2 (.bool tx) rfl;have x3 := b9.cell 3 (.slice Bx mx dx) rfl
   go_wp2_with fail
   refine (p_Scale1 hx (hnum.ext ext) (hb.ext ext) (by omega) (by omega) (hT.ext ext)).mono ?_;rintro e V ⟨s7, A7, n7, c7, t7, B7, m7, d7, rfl, h7, hxt⟩;clear x0 x1 x2 x3 b9;replace hF := hF.ext hxt;replace ext := ext.trans hxt;have hcs := hF.cells (by rw [hkl]; exact hlt);rw [hkl] at hcs;obtain ⟨p0, p1, p2, p3⟩ := hcs;have f0 := hF.frozen (k * 4);have f1 := hF.frozen (k * 4 + 1);have f2 := hF.frozen (k * 4 + 2);have f3 := hF.frozen (k * 4 + 3)
   go_wp2_with fail
   have P := hF.put hkl hlt h7
   go_roundw
   case rel => exact ⟨k + 1, by omega, by go_num, P.2.2.1 _ ext (Nat.le_refl _), by rw [HT.out]; exact P.1⟩
   case measure => simp [intOf]; omega
  ·have hkn : k = n := by omega
   subst hkn;have hml : ((qs.take k).map (fun x => x * p)).length = k := by rw [List.length_map, List.length_take, Hlen.out]; omega
   have hp := hF.pol hml (by unfold maxLen; omega);rw [List.take_of_length_le (Nat.le_of_eq Hlen.out)] at hp
   go_wp2_with fail
   refine (p_cutR hp (by omega) hn).mono ?_;rintro e V ⟨A8, n8, c8, rfl, h8, hxt⟩
   go_wp2_with fail
   go_ret
   exact ⟨A8, n8, c8, rfl, h8, ext.trans hxt⟩
theorem p_ScaleP {p : Rat} (h : Pol w A n c qs L) (hk : NR w p M sy Ay ny cy ty By my dy) (hL : L <= 900) (hM : M <= 60) (hn : n <= 1000) (hT : Tab w) : Calls Tryz.prog 22 #[.slice A n c, .agg #[.bool sy, .slice Ay ny cy, .bool ty, .slice By my dy]] w (RetPol (trimP (scaleP qs p)) (L + M) w) := by
 have hmf : ∀ (fn : Fn) (first cap : Array Value) (w : World), (Instr.makeFunc fn first cap).run Tryz.prog w = .ok (.func fn first cap) w := fun _ _ _ _ => rfl
 go_enter Tryz.func22, Tryz.ntmps22
 go_upto_region 1 with (fail)
 obtain ⟨W, hW, ext, bx, hz⟩ := box1 w 27 #[.bool sy, .slice Ay ny cy, .bool ty, .slice By my dy];rw [<- hW];clear hW hz
 go_wp2_with fail
 refine (p_each_Scale (h.ext ext) hL hn (hk.ext ext) bx hM (hT.ext ext)).mono ?_;rintro e V ⟨A8, n8, c8, rfl, h8, hxt⟩
 go_wp2_with fail
 go_ret
 exact ⟨A8, n8, c8, rfl, h8, ext.trans hxt⟩
end
def RetDM2 (q r : List Rat) (L M : Nat) (err : Int) (w : World) (e : Ending) (w' : World) : Prop :=
 ∃ A n c B m d, e = .returned (.tuple #[.slice A n c, .slice B m d, .int .i64 err]) /\ Pol w' A n c q L /\ Pol w' B m d r M /\ Ext w w'
section
variable {w w' : World} {q x : Rat} {L M : Nat} {s t : Bool} {A B : Option Addr} {n c m d : Nat} {sx tx : Bool} {Ax Bx : Option Addr} {nx cx mx dx : Nat} {qs ps : List Rat}
set_option maxRecDepth 100000 in
theorem p_DivModP {X Y S C o N : Nat} {xs ys os : List Int} {lead : Int} (h : Pol w A n c qs L) (h' : Pol w B m d ps M) (hL : L <= 60) (hM : M <= 60) (hn : n <= 40) (hm : m <= 40) (hX : SizeP qs X) (hY : SizeP ps Y) (hX1 : X < 60) (hY1 : Y < 60)
  (hxs : trimI (numsP qs) = xs) (hys : trimI (numsP ps) = ys) (hy0 : ys.length = o + 1) (hN : N = xs.length - o) (hos : os = ys.take o) (hlead : lead = ys.getLastD 0) (hl0 : lead ≠ 0) (hD : DivB xs os lead N S C) (hXS : X <= S) (hC1 : 1 <= C) (hQ : S + C + Y <= 900) (hT : Tab w) :
  Calls Tryz.prog 33 #[.slice A n c, .slice B m d] w (RetDM2 (trimP (scaleP (divS xs os lead N N).2.2 (mkQ ((denP ps : Nat) : Int) ((denP qs : Nat) : Int)))) ((trimI ((divS xs os lead N N).1.take (xs.length - N))).map (fun z => mkQ z ((divS xs os lead N N).2.1 * ((denP qs : Nat) : Int)))) (S + C + Y + max Y X) (S + C + X) 0 w) := by
 have HX1 := Lib.hid (fun z hz => hX.num z (trimI_mem hz));have HY1 := Lib.hid (fun z hz => hY.num z (trimI_mem hz));have HX2 := Lib.hid (show (((denP qs : Nat) : Int)).natAbs < 4294967296 ^ X by rw [Int.natAbs_natCast]; exact hX.den);have HY2 := Lib.hid (show (((denP ps : Nat) : Int)).natAbs < 4294967296 ^ Y by rw [Int.natAbs_natCast]; exact hY.den);clear hX hY;have Hlx := Lib.hid (show (trimI (numsP qs)).length <= n by have := trimI_len (numsP qs); rw [numsP_len, h.len] at this; exact this);have Hly := Lib.hid (show (trimI (numsP ps)).length <= m by have := trimI_len (numsP ps); rw [numsP_len, h'.len] at this; exact this);have HNA := Lib.hid (show ((denP qs : Nat) : Int) ≠ 0 by have := denP_pos qs; omega);have HXS := Lib.hid hxs;have HYS := Lib.hid hys;rw [hxs] at HX1 Hlx;rw [hys] at HY1 Hly;have HD := Lib.hid (show (divS xs os lead N N).2.1 * ((denP qs : Nat) : Int) ≠ 0 from Int.mul_ne_zero (divS_nz hl0 N) HNA.out);have hly := Hly.out;have hlx := Hlx.out;have HN := Lib.hid hN;have HLD := Lib.hid hlead;have HOS := Lib.hid hos;have HL0 := Lib.hid hl0;have hN1 : N <= xs.length - o := by omega
 clear hxs hys hN hlead hos hl0
 go_enter Tryz.func33, Tryz.ntmps33
 go_wp2_with fail
 refine (p_split h hL hn hT).mono ?_;rintro e V1 ⟨A1, n1, c1, s1, B1, m1, d1, rfl, hx, hdx, ext⟩;rw [HXS.out] at hx;replace hx := hx.tight HX1.out;replace hdx := hdx.tight' HX2.out
 go_upto_region 2 with (fail)
 obtain ⟨V2, hV2, ext2, b8, hz2⟩ := box1 V1 25 #[.bool s1, .slice B1 m1 d1];rw [<- hV2];clear hV2 hz2;replace hx := hx.ext ext2;replace hdx := hdx.ext ext2;replace ext := ext.trans ext2;clear ext2;generalize V1.heap.size = g8 at b8 ⊢
 go_wp2_with fail
 refine (p_split (h'.ext ext) hM hm (hT.ext ext)).mono ?_;rintro e V1 ⟨A2, n2, c2, s2, B2, m2, d2, rfl, hy, hdy, ext3⟩;rw [HYS.out] at hy;replace hy := hy.tight HY1.out;replace hdy := hdy.tight' HY2.out;replace hx := hx.ext ext3;replace hdx := hdx.ext ext3;replace b8 := b8.ext ext3;replace ext := ext.trans ext3;clear ext3
 go_upto_region 3 with (fail)
 obtain ⟨V3, hV3, ext2, b10, hz2⟩ := box1 V1 25 #[.bool s2, .slice B2 m2 d2];rw [<- hV3];clear hV3 hz2;replace hx := hx.ext ext2;replace hdx := hdx.ext ext2;replace b8 := b8.ext ext2;replace hy := hy.ext ext2;replace hdy := hdy.ext ext2;replace ext := ext.trans ext2;clear ext2;generalize V1.heap.size = g10 at b10 ⊢;have hn1 : xs.length = n1 := hx.len;have hn2 : ys.length = n2 := hy.len;have zb2 : ((n2 : Int) == 0) = false := beq_eq_false_iff_ne.2 (by omega)
 go_wp2_with fail
 refine (p_divideA hx hy (by omega) (by omega) (by omega) hXS (by omega) (by omega) (by rw [<- hn1]; exact HN.out) HOS.out HLD.out HL0.out hD (by omega) (by omega) hC1 (hT.ext ext)).mono ?_;rintro e V4 ⟨A3, n3, c3, B3, m3, d3, s4, D4, k4, l4, rfl, hq, hr, hsc, ext4⟩;rw [<- hn1] at hr;replace hdx := hdx.ext ext4;replace b8 := b8.ext ext4;replace hdy := hdy.ext ext4;replace b10 := b10.ext ext4;replace ext := ext.trans ext4;clear ext4;have hlq : n3 = N := by rw [<- hq.len, divS_qlen]
 rw [hlq] at hq ⊢;clear hlq;have hlr : m3 <= 400 := by have := hr.len; have := trimI_len ((divS xs os lead N N).1.take (xs.length - N)); rw [List.length_take, divS_len] at this; omega
 go_upto_region 6 with (fail)
 obtain ⟨V5, hV5, ext2, b13, hz2⟩ := box1 V4 25 #[.bool s4, .slice D4 k4 l4];rw [<- hV5];clear hV5 hz2;replace hdx := hdx.ext ext2;replace b8 := b8.ext ext2;replace hdy := hdy.ext ext2;replace b10 := b10.ext ext2;replace hq := hq.ext ext2;replace hr := hr.ext ext2;replace hsc := hsc.ext ext2;replace ext := ext.trans ext2;clear ext2;generalize V4.heap.size = g13 at b13 ⊢;have x0 := b10.cell 0 _ rfl;have x1 := b10.cell 1 _ rfl;have y0 := b8.cell 0 _ rfl;have y1 := b8.cell 1 _ rfl
 go_wp2_with fail
 refine (p_Make_nz hdy hdx (by omega) (by omega) HNA.out (hT.ext ext)).mono ?_;rintro e V6 ⟨sx, Ax, nx, cx, tx, Bx, mx, dx, rfl, hfac, ext6⟩;clear x0 x1 y0 y1;replace hdx := hdx.ext ext6;replace b8 := b8.ext ext6;replace hq := hq.ext ext6;replace hr := hr.ext ext6;replace hsc := hsc.ext ext6;replace b13 := b13.ext ext6;replace ext := ext.trans ext6;clear ext6
 go_upto_region 7 with (fail)
 obtain ⟨V7, hV7, ext2, b14, hz2⟩ := box1 V6 27 #[.bool sx, .slice Ax nx cx, .bool tx, .slice Bx mx dx];rw [<- hV7];clear hV7 hz2;replace hdx := hdx.ext ext2;replace b8 := b8.ext ext2;replace hq := hq.ext ext2;replace hr := hr.ext ext2;replace hsc := hsc.ext ext2;replace b13 := b13.ext ext2;replace hfac := hfac.ext ext2;replace ext := ext.trans ext2;clear ext2;generalize V6.heap.size = g14 at b14 ⊢;have hN40 : N <= 1000 := by omega
 have ES0 := Ext.refl V7;refine wp_region_held_drew (S := Ext V7) (by kernel_rfl) ES0.drew (fun ES => ?_);clear ES0;refine Late.s0 ES (fun hAl hQ => ?_);refine Late.t 0 42 ?v_0 hQ ?y_0 ?_
 case y_0 => intro w' hSw;go_simp;try rfl
 try simp only [zP]
 refine Late.t 1 43 ?v_1 hQ ?y_1 ?_
 case y_1 => intro w' hSw;have k00 := (b14.ext hSw).c4;have k10 := (b13.ext hSw).c2;have k20 := (b8.ext hSw).c2;go_simp;try rfl
 try simp only [zP]
 refine Late.t 3 45 ?v_2 hQ ?y_2 ?_
 case y_2 => intro w' hSw;go_simp;try rfl
 try simp only [zP]
 refine Late.t 4 46 ?v_3 hQ ?y_3 ?_
 case y_3 => intro w' hSw;have k00 := (b14.ext hSw).c4;have k10 := (b13.ext hSw).c2;have k20 := (b8.ext hSw).c2;go_simp;try rfl
 try simp only [zP]
 refine Late.t 5 47 ?v_4 hQ ?y_4 ?_
 case y_4 => intro w' hSw;have k00 := (b14.ext hSw).c4;have k10 := (b13.ext hSw).c2;have k20 := (b8.ext hSw).c2;go_simp;try rfl
 try simp only [zP]
 refine Late.cl (i := 2) rfl hAl hQ (fun w2 e2 E2 K hK => ?_);go_simp
 (go_at_call 22; refine (p_ScaleP (hq.ext E2) (hfac.ext E2) (by omega) (by omega) (by omega) (hT.ext (ext.trans E2))).mono ?_; rintro e wk1 ⟨A7, n7, c7, rfl, h7, hx2⟩)
 refine hK.out _ _ hx2 ?_;clear hK K
 try simp only [zP]
 refine Late.cl (i := 6) rfl hAl hQ (fun w6 e6 E6 K hK => ?_);go_simp
 (go_at_call 64; refine (p_Mul (hsc.ext E6) (hdx.ext E6) (by omega) (by omega) (by omega)).mono ?_; rintro e wk2 ⟨s8, A8, n8, c8, rfl, h8, hx6⟩)
 refine hK.out _ _ hx6 ?_;clear hK K
 try simp only [zP]
 refine Late.cl (i := 7) rfl hAl hQ (fun w7 e7 E7 K hK => ?_);go_simp
 (go_at_call 62; refine (p_join (hr.ext E7) (h8.ext e7) HD.out (by omega) (by omega) (by omega) (hT.ext (ext.trans E7))).mono ?_; rintro e wk3 ⟨A9, n9, c9, rfl, h9, hx7⟩)
 refine hK.out _ _ hx7 ?_;clear hK K
 try simp only [zP]
 refine Late.t 8 4 ?v_5 hQ ?y_5 ?_
 case y_5 => intro w' hSw;go_simp;try rfl
 try simp only [zP]
 refine Late.t 9 5 ?v_6 hQ ?y_6 ?_
 case y_6 => intro w' hSw;go_simp;try rfl
 try simp only [zP]
 refine Late.t 10 6 ?v_7 hQ ?y_7 ?_
 case y_7 => intro w' hSw;go_simp;try rfl
 try simp only [zP]
 refine Late.d0 (fun wz ez Ez => ?_);clear hAl hQ ES
 go_wp2_with fail
 refine bodyPost_ret (v := .tuple #[.slice A7 n7 c7, .slice A9 n9 c9, .int .i64 0]) (by simp [results, Tryz.results33, go_sem]) rfl ⟨A7, n7, c7, A9, n9, c9, rfl, h7.ext (e6.trans (hx6.trans (e7.trans (hx7.trans ez)))), ?_, ext.trans Ez⟩;exact (h9.ext ez).leL (by omega)
set_option maxRecDepth 100000 in
theorem p_DivModZ (h : Pol w A n c qs L) (h' : Pol w B m d ps M) (hL : L <= 60) (hM : M <= 60) (hn : n <= 40) (hm : m <= 40) (hz : trimI (numsP ps) = []) (hT : Tab w) :
  Calls Tryz.prog 33 #[.slice A n c, .slice B m d] w (RetDM2 [] [] 1 1 6 w) := by
 have HZ := Lib.hid hz;clear hz
 go_enter Tryz.func33, Tryz.ntmps33
 go_wp2_with fail
 refine (p_split h hL hn hT).mono ?_;rintro e V1 ⟨A1, n1, c1, s1, B1, m1, d1, rfl, hx, hdx, ext⟩;clear hx hdx
 go_upto_region 2 with (fail)
 obtain ⟨V2, hV2, ext2, b8, hz2⟩ := box1 V1 25 #[.bool s1, .slice B1 m1 d1];rw [<- hV2];clear hV2 hz2;replace ext := ext.trans ext2;clear ext2;generalize V1.heap.size = g8 at b8 ⊢
 go_wp2_with fail
 refine (p_split (h'.ext ext) hM hm (hT.ext ext)).mono ?_;rintro e V1 ⟨A2, n2, c2, s2, B2, m2, d2, rfl, hy, hdy, ext3⟩;rw [HZ.out] at hy;replace ext := ext.trans ext3;clear ext3 hdy b8
 go_upto_region 3 with (fail)
 obtain ⟨V3, hV3, ext2, b10, hz2⟩ := box1 V1 25 #[.bool s2, .slice B2 m2 d2];rw [<- hV3];clear hV3 hz2 b10;replace hy := hy.ext ext2;replace ext := ext.trans ext2;clear ext2;have hn2 : n2 = 0 := hy.len.symm;subst hn2
 go_wp2_with fail
 refine bodyPost_ret (v := .tuple #[.slice none 0 0, .slice none 0 0, .int .i64 6]) (by simp [results, Tryz.results33, go_sem]) rfl ⟨none, 0, 0, none, 0, 0, rfl, ⟨rfl, Nat.le_refl _, by unfold maxLen; omega, fun h => absurd rfl h⟩, ⟨rfl, Nat.le_refl _, by unfold maxLen; omega, fun h => absurd rfl h⟩, ext⟩
end
def absQ (q : Rat) : Rat := if q.num.sign < 0 then -q else q
def maxA (qs : List Rat) : Rat := qs.foldl (fun g q => if 0 < ratCmp (absQ q) g then absQ q else g) 0
theorem maxA_snoc (qs : List Rat) (q : Rat) : maxA (qs ++ [q]) = if 0 < ratCmp (absQ q) (maxA qs) then absQ q else maxA qs := by unfold maxA; rw [List.foldl_append]; rfl
theorem absQ_ne {q : Rat} (h : q ≠ 0) : absQ q ≠ 0 := by
 unfold absQ
 split
 ·intro e
  apply h
  have := congrArg (fun x : Rat => -x) e
  simpa using this
 ·exact h
theorem trimP_last {qs : List Rat} (h : trimP qs ≠ []) : (trimP qs).getLastD 0 ≠ 0 := by
 rcases List.eq_nil_or_concat (trimP qs) with e | ⟨l, x, e⟩
 ·exact absurd e h
 ·rw [e]
  intro hx;have hx0 : x = 0 := by simpa using hx
  have h1 : trimP (trimP qs) = trimP qs := trimP_idem qs;rw [e, hx0, List.concat_eq_append, trimP_zero] at h1;have := congrArg List.length h1;have h2 := trimP_len l;simp at this;omega
theorem intSnoc_ind {P : List Int -> Prop} (h0 : P []) (h1 : ∀ l x, P l -> P (l ++ [x])) (l : List Int) : P l := by
 have : ∀ m : List Int, P m.reverse := by
  intro m
  induction m with
  | nil => exact h0
  | cons x m ih => rw [List.reverse_cons]; exact h1 _ _ ih
 have h := this l.reverse
 rwa [List.reverse_reverse] at h
theorem trimI_idem (l : List Int) : trimI (trimI l) = trimI l := by
 induction l using intSnoc_ind with
 | h0 => rfl
 | h1 l x ih =>
  by_cases h : x = 0
  ·subst h; rw [trimI_zero]; exact ih
  ·rw [trimI_snoc l h, trimI_snoc l h]
theorem trimI_last {zs : List Int} (h : trimI zs ≠ []) : (trimI zs).getLastD 0 ≠ 0 := by
 rcases List.eq_nil_or_concat (trimI zs) with e | ⟨l, x, e⟩
 ·exact absurd e h
 ·rw [e]
  intro hx;have hx0 : x = 0 := by simpa using hx
  have h1 : trimI (trimI zs) = trimI zs := trimI_idem zs;rw [e, hx0, List.concat_eq_append, trimI_zero] at h1;have := congrArg List.length h1;have h2 := trimI_len l;simp at this;omega
section
variable {w w' : World} {q x : Rat} {L M : Nat} {s t : Bool} {A B : Option Addr} {n c m d : Nat} {sx tx : Bool} {Ax Bx : Option Addr} {nx cx mx dx : Nat} {qs ps : List Rat}
theorem p_absR_neg (h : NR w q L s A n c t B m d) (hL : L <= 50000) (hs : q.num.sign < 0) : Calls Tryz.prog 84 #[.agg #[.bool s, .slice A n c, .bool t, .slice B m d]] w (RetNR (-q) L w) := by
 go_enter Tryz.func84, Tryz.ntmps84
 go_upto_region 1 with (fail)
 obtain ⟨W, hW, extW, bx, bz, hz⟩ := box2 w 27 27 #[.bool s, .slice A n c, .bool t, .slice B m d] #[Value.bool false, Value.slice none 0 0, Value.bool false, Value.slice none 0 0];rw [<- hW];clear hW;have x0 := bx.cell 0 (.bool s) rfl;have x1 := bx.cell 1 (.slice A n c) rfl;have x2 := bx.cell 2 (.bool t) rfl;have x3 := bx.cell 3 (.slice B m d) rfl
 go_wp2_with fail
 refine (p_SignR (h.ext extW) hL).mono ?_;rintro e V ⟨rfl, hx0⟩;replace bx := bx.ext hx0;replace bz := bz.ext hx0;replace h := h.ext (extW.trans hx0);replace extW := extW.trans hx0;clear hx0 x0 x1 x2 x3;have x0 := bx.cell 0 (.bool s) rfl;have x1 := bx.cell 1 (.slice A n c) rfl;have x2 := bx.cell 2 (.bool t) rfl;have x3 := bx.cell 3 (.slice B m d) rfl
 go_wp2_with fail
 refine (p_NegR h (by omega)).mono ?_;rintro e V2 ⟨s7, A7, n7, c7, t7, B7, m7, d7, rfl, h7, hxt⟩;clear x0 x1 x2 x3;have z0 := (bz.ext hxt).cell 0 _ rfl;have z1 := (bz.ext hxt).cell 1 _ rfl;have z2 := (bz.ext hxt).cell 2 _ rfl;have z3 := (bz.ext hxt).cell 3 _ rfl;have f0 := (bz.ext hxt).frozen 0;have f1 := (bz.ext hxt).frozen 1;have f2 := (bz.ext hxt).frozen 2;have f3 := (bz.ext hxt).frozen 3
 go_wp2_with fail
 obtain ⟨b1, b2, b3, b4⟩ := fin_quad (s := s7) (A := A7) (n := n7) (c := c7) (t := t7) (B := B7) (m := m7) (d := d7) (bz.ext hxt);have r0 := b1.cell 0 (.bool s7) rfl;have r1 := b1.cell 1 (.slice A7 n7 c7) rfl;have r2 := b1.cell 2 (.bool t7) rfl;have r3 := b1.cell 3 (.slice B7 m7 d7) rfl;unfold set4 at r0 r1 r2 r3;refine bodyPost_ret (v := .agg #[.bool s7, .slice A7 n7 c7, .bool t7, .slice B7 m7 d7]) (by simp [results, Tryz.results84, go_sem, r0, r1, r2, r3]) rfl ⟨s7, A7, n7, c7, t7, B7, m7, d7, rfl, ⟨?_, ?_⟩, b3 _ (extW.trans hxt) (by omega)⟩
 ·exact b2 _ _ _ _ _ _ h7.num
 ·exact b2 _ _ _ _ _ _ h7.den
theorem p_absR_pos (h : NR w q L s A n c t B m d) (hL : L <= 50000) (hs : 0 <= q.num.sign) : Calls Tryz.prog 84 #[.agg #[.bool s, .slice A n c, .bool t, .slice B m d]] w (RetNR (q) L w) := by
 go_enter Tryz.func84, Tryz.ntmps84
 go_upto_region 1 with (fail)
 obtain ⟨W, hW, extW, bx, bz, hz⟩ := box2 w 27 27 #[.bool s, .slice A n c, .bool t, .slice B m d] #[Value.bool false, Value.slice none 0 0, Value.bool false, Value.slice none 0 0];rw [<- hW];clear hW;have x0 := bx.cell 0 (.bool s) rfl;have x1 := bx.cell 1 (.slice A n c) rfl;have x2 := bx.cell 2 (.bool t) rfl;have x3 := bx.cell 3 (.slice B m d) rfl
 go_wp2_with fail
 refine (p_SignR (h.ext extW) hL).mono ?_;rintro e V ⟨rfl, hx0⟩;replace bx := bx.ext hx0;replace bz := bz.ext hx0;replace h := h.ext (extW.trans hx0);replace extW := extW.trans hx0;clear hx0 x0 x1 x2 x3;have x0 := bx.cell 0 (.bool s) rfl;have x1 := bx.cell 1 (.slice A n c) rfl;have x2 := bx.cell 2 (.bool t) rfl;have x3 := bx.cell 3 (.slice B m d) rfl;have hxt := Ext.refl V;obtain ⟨S, hS, dS⟩ : ∃ S, q.num.sign = S /\ decide (S < 0) = false := ⟨_, rfl, decide_eq_false (by omega)⟩;rw [hS];clear hS hs;have z0 := (bz.ext hxt).cell 0 _ rfl;have z1 := (bz.ext hxt).cell 1 _ rfl;have z2 := (bz.ext hxt).cell 2 _ rfl;have z3 := (bz.ext hxt).cell 3 _ rfl;have f0 := (bz.ext hxt).frozen 0;have f1 := (bz.ext hxt).frozen 1;have f2 := (bz.ext hxt).frozen 2;have f3 := (bz.ext hxt).frozen 3
 go_wp2_with fail
 obtain ⟨b1, b2, b3, b4⟩ := fin_quad (s := s) (A := A) (n := n) (c := c) (t := t) (B := B) (m := m) (d := d) (bz.ext hxt);have r0 := b1.cell 0 (.bool s) rfl;have r1 := b1.cell 1 (.slice A n c) rfl;have r2 := b1.cell 2 (.bool t) rfl;have r3 := b1.cell 3 (.slice B m d) rfl;unfold set4 at r0 r1 r2 r3;refine bodyPost_ret (v := .agg #[.bool s, .slice A n c, .bool t, .slice B m d]) (by simp [results, Tryz.results84, go_sem, r0, r1, r2, r3]) rfl ⟨s, A, n, c, t, B, m, d, rfl, ⟨?_, ?_⟩, b3 _ (extW.trans hxt) (by omega)⟩
 ·exact b2 _ _ _ _ _ _ h.num
 ·exact b2 _ _ _ _ _ _ h.den
theorem p_absR (h : NR w q L s A n c t B m d) (hL : L <= 50000) : Calls Tryz.prog 84 #[.agg #[.bool s, .slice A n c, .bool t, .slice B m d]] w (RetNR (absQ q) L w) := by
 by_cases hs : q.num.sign < 0
 ·rw [show absQ q = -q from if_pos hs]; exact p_absR_neg h hL hs
 ·rw [show absQ q = q from if_neg hs]; exact p_absR_pos h hL (by omega)
theorem p_lastR (h : Pol w A n c qs L) (hn : n <= 10000) (h0 : 0 < n) : Calls Tryz.prog 87 #[.slice A n c] w (RetNR (qs.getLastD 0) L w) := by
 obtain ⟨j, rfl⟩ : ∃ j, n = j + 1 := ⟨n - 1, by omega⟩;have hj : j < qs.length := by rw [h.len]; omega
 have e : qs.getLastD 0 = qs[j] := by
  rw [List.getLastD_eq_getLast?, List.getLast?_eq_getElem?, h.len, show j + 1 - 1 = j by omega, List.getElem?_eq_getElem hj]; rfl
 rw [e];clear e
 go_enter Tryz.func87, Tryz.ntmps87
 go_upto_region 1 with (fail)
 obtain ⟨W, hW, extW, bz, hz⟩ := box1 w 27 #[Value.bool false, Value.slice none 0 0, Value.bool false, Value.slice none 0 0];rw [<- hW];clear hW;obtain ⟨b, off, rfl, hr⟩ := h.at_ (fun e => by rw [e] at hj; exact absurd hj (Nat.not_lt_zero _));obtain ⟨sx, Ax, nx, cx, tx, Bx, mx, dx, e0, e1, e2, e3, hx⟩ := (hr.ext extW).at_ j hj;have e0' : W.cell? ⟨b, off + j * 4, none⟩ = some (.bool sx) := by rw [Nat.mul_comm]; exact e0
 have e1' : W.cell? ⟨b, off + j * 4 + 1, none⟩ = some (.slice Ax nx cx) := by rw [Nat.mul_comm]; exact e1
 have e2' : W.cell? ⟨b, off + j * 4 + 2, none⟩ = some (.bool tx) := by rw [Nat.mul_comm]; exact e2
 have e3' : W.cell? ⟨b, off + j * 4 + 3, none⟩ = some (.slice Bx mx dx) := by rw [Nat.mul_comm]; exact e3
 clear e0 e1 e2 e3;have hxt := Ext.refl W;have z0 := (bz.ext hxt).cell 0 _ rfl;have z1 := (bz.ext hxt).cell 1 _ rfl;have z2 := (bz.ext hxt).cell 2 _ rfl;have z3 := (bz.ext hxt).cell 3 _ rfl;have f0 := (bz.ext hxt).frozen 0;have f1 := (bz.ext hxt).frozen 1;have f2 := (bz.ext hxt).frozen 2;have f3 := (bz.ext hxt).frozen 3
 go_wp2_with fail
 obtain ⟨b1, b2, b3, b4⟩ := fin_quad (s := sx) (A := Ax) (n := nx) (c := cx) (t := tx) (B := Bx) (m := mx) (d := dx) (bz.ext hxt);have r0 := b1.cell 0 (.bool sx) rfl;have r1 := b1.cell 1 (.slice Ax nx cx) rfl;have r2 := b1.cell 2 (.bool tx) rfl;have r3 := b1.cell 3 (.slice Bx mx dx) rfl;unfold set4 at r0 r1 r2 r3;refine bodyPost_ret (v := .agg #[.bool sx, .slice Ax nx cx, .bool tx, .slice Bx mx dx]) (by simp [results, Tryz.results87, go_sem, r0, r1, r2, r3]) rfl ⟨sx, Ax, nx, cx, tx, Bx, mx, dx, rfl, ⟨?_, ?_⟩, b3 _ (extW.trans hxt) (by omega)⟩
 ·exact b2 _ _ _ _ _ _ hx.num
 ·exact b2 _ _ _ _ _ _ hx.den
theorem p_PrimitiveP {X : Nat} (h : Pol w A n c qs L) (hL : L <= 60) (hn : n <= 40) (hX : SizeP qs X) (hX1 : X <= 3000) (h0 : trimI (numsP qs) ≠ []) (hT : Tab w) : Calls Tryz.prog 37 #[.slice A n c] w (RetIPol (primI (trimI (numsP qs))) X w) := by
 have HX := Lib.hid (fun z hz => hX.num z (trimI_mem hz));have HL := Lib.hid (trimI_last h0);have hlen := trimI_len (numsP qs);have h1 := numsP_len qs;have h2 := h.len;have hpos : 0 < (trimI (numsP qs)).length := List.length_pos_iff.2 h0;clear hX h0
 go_enter Tryz.func37, Tryz.ntmps37
 go_wp2_with fail
 refine (p_split h hL hn hT).mono ?_;rintro e V1 ⟨A1, n1, c1, s1, B1, m1, d1, rfl, hx, hdx, ext⟩;replace hx := hx.tight HX.out;have hl1 := hx.len
 go_upto_region 2 with (fail)
 refine at_world (fun V => Ext w V /\ IPol V A1 n1 c1 (trimI (numsP qs)) X) ⟨ext.trans ((Ext.refl V1).alloc _), hx.ext ((Ext.refl V1).alloc _)⟩ ?_;clear ext hx hdx;rintro V ⟨ext, hx⟩
 go_wp2_with fail
 refine (p_primitive hx hX1 (by omega) (by omega) HL.out (hT.ext ext)).mono ?_;rintro e V2 ⟨A2, n2, c2, rfl, h2, hx2⟩
 go_wp2_with fail
 go_ret
 exact ⟨A2, n2, c2, rfl, h2, ext.trans hx2⟩
set_option maxRecDepth 100000 in
theorem p_BoundP (h : Pol w A n c qs L) (hL : L <= 30) (hL2 : 2 <= L) (hn : n <= 1000) (hT : Tab w) : Calls Tryz.prog 41 #[.slice A n c] w (RetNR (if (trimP qs).length < 2 then 0 else 1 + maxA ((trimP qs).take ((trimP qs).length - 1)) / absQ ((trimP qs).getLastD 0)) (2 + (L + L) + 1) w) := by
 obtain ⟨ts, hts⟩ : ∃ ts, trimP qs = ts := ⟨_, rfl⟩;have htl : ts.length <= n := by rw [<- hts, <- h.len]; exact trimP_len qs
 have HNZ' := Lib.hid (show ts ≠ [] -> absQ (ts.getLastD 0) ≠ 0 from fun e => absQ_ne (by rw [<- hts] at e ⊢; exact trimP_last e));rw [hts];obtain ⟨r, hr⟩ : ∃ r, (if ts.length < 2 then (0 : Rat) else 1 + maxA (ts.take (ts.length - 1)) / absQ (ts.getLastD 0)) = r := ⟨_, rfl⟩;rw [hr];have HR := Lib.hid hr;clear hr
 go_enter Tryz.func41, Tryz.ntmps41
 go_upto_region 1 with (fail)
 obtain ⟨W, hW, extW, bz, hz⟩ := box1 w 27 #[Value.bool false, Value.slice none 0 0, Value.bool false, Value.slice none 0 0];rw [<- hW];clear hW
 go_wp2_with fail
 refine (p_cutR (h.ext extW) (by omega) hn).mono ?_;rintro e V ⟨A1, n1, c1, rfl, hp, hx0⟩;rw [hts] at hp;have hn1 : ts.length = n1 := hp.len;have HN1 := Lib.hid hn1;clear hts
 go_wp2_with fail
 refine (p_FromIntR 0 (by omega) (by omega)).mono ?_;rintro e V2 ⟨sg, Ag, ng, cg, tg, Bg, mg, dg, rfl, hg, hx1⟩;replace bz := bz.ext (hx0.trans hx1);replace hp := hp.ext hx1;replace extW := extW.trans (hx0.trans hx1);clear hx0 hx1
 go_upto_region 3 with (fail)
 have ha := (Ext.refl V2).alloc (.cells #[.bool sg, .slice Ag ng cg, .bool tg, .slice Bg mg dg] 27);have hblt := bz.lt;refine at_world (fun V => Ext V2 V /\ Box V V2.heap.size 27 #[.bool sg, .slice Ag ng cg, .bool tg, .slice Bg mg dg] /\ NR V ((0 : Int) : Rat) L sg Ag ng cg tg Bg mg dg) ⟨ha, Box.new V2 _ _, (hg.ext ha).le hL2⟩ ?_;clear ha hg hz;obtain ⟨g3, hg3⟩ : ∃ g, V2.heap.size = g := ⟨_, rfl⟩;rw [hg3] at hblt ⊢;have hsz : V2.heap.size <= g3 := Nat.le_of_eq hg3;clear hg3;rintro V ⟨ext2, b3, hg⟩;have e0 : ((0 : Int) : Rat) = maxA (ts.take 0) := rfl;rw [e0] at hg;clear e0
 by_cases hl2 : n1 < 2
 ·have hr := HR.out
  rw [if_pos (by rw [HN1.out]; exact hl2)] at hr;have HR0 := Lib.hid hr;clear hr;have hI : (n1 : Int) < 2 := by omega
  have x0 := b3.cell 0 (.bool sg) rfl;have x1 := b3.cell 1 (.slice Ag ng cg) rfl;have x2 := b3.cell 2 (.bool tg) rfl;have x3 := b3.cell 3 (.slice Bg mg dg) rfl;have z0 := (bz.ext ext2).cell 0 _ rfl;have z1 := (bz.ext ext2).cell 1 _ rfl;have z2 := (bz.ext ext2).cell 2 _ rfl;have z3 := (bz.ext ext2).cell 3 _ rfl;have f0 := (bz.ext ext2).frozen 0;have f1 := (bz.ext ext2).frozen 1;have f2 := (bz.ext ext2).frozen 2;have f3 := (bz.ext ext2).frozen 3
  go_wp2_with fail
  obtain ⟨b1, b2, b3, b4⟩ := fin_quad (s := sg) (A := Ag) (n := ng) (c := cg) (t := tg) (B := Bg) (m := mg) (d := dg) (bz.ext ext2);have r0 := b1.cell 0 (.bool sg) rfl;have r1 := b1.cell 1 (.slice Ag ng cg) rfl;have r2 := b1.cell 2 (.bool tg) rfl;have r3 := b1.cell 3 (.slice Bg mg dg) rfl;unfold set4 at r0 r1 r2 r3;refine bodyPost_ret (v := .agg #[.bool sg, .slice Ag ng cg, .bool tg, .slice Bg mg dg]) (by simp [results, Tryz.results41, go_sem, r0, r1, r2, r3]) rfl ⟨sg, Ag, ng, cg, tg, Bg, mg, dg, rfl, ⟨?_, ?_⟩, b3 _ (extW.trans ext2) (by omega)⟩
  ·rw [<- HR0.out]; exact (b2 _ _ _ _ _ _ hg.num).le (by omega)
  ·rw [<- HR0.out]; exact (b2 _ _ _ _ _ _ hg.den).le (by omega)
 ·have hr := HR.out
  rw [if_neg (by rw [HN1.out]; exact hl2), HN1.out] at hr;have HR1 := Lib.hid hr;clear hr;have hI : (2 : Int) <= (n1 : Int) := by omega
  have hJ : (n1 : Int) - 1 = ((n1 - 1 : Nat) : Int) := by omega
  have hW1 : IntKind.i64.wrap (((n1 - 1 : Nat) : Int)) = ((n1 - 1 : Nat) : Int) := IntWalk.i64_in _ (by omega);have hJc : ((n1 - 1 : Nat) : Int) <= (c1 : Int) := by have := hp.cap; omega
  have hJn : ((n1 - 1 : Nat) : Int) <= (n1 : Int) := by omega
  have HNZ := Lib.hid (HNZ'.out (fun e => by rw [e] at hn1; simp at hn1; omega));clear HNZ'
  go_wp2_with fail
  go_loopw [22] (fun v wr => ∃ (k : Nat) (s' : Bool) (A' : Option Addr) (n' c' : Nat) (t' : Bool) (B' : Option Addr) (m' d' : Nat), k <= n1 - 1 /\ v = .int .i64 (k : Int) /\ Ext V2 wr /\ Box wr g3 27 #[.bool s', .slice A' n' c', .bool t', .slice B' m' d'] /\ NR wr (maxA (ts.take k)) L s' A' n' c' t' B' m' d') (fun v _ => n1 - 1 - (intOf v).toNat)
  case atStart => exact ⟨0, sg, Ag, ng, cg, tg, Bg, mg, dg, Nat.zero_le _, rfl, ext2, b3, hg⟩
  case round =>
   clear ext2 b3 hg;obtain ⟨k, sg, Ag, ng, cg, tg, Bg, mg, dg, hk, rfl, ext, b3, hg⟩ := hrel
   by_cases hlt : k < n1 - 1
   ·have hj : k < ts.length := by rw [HN1.out]; omega
    have hkI : (k : Int) < ((n1 - 1 : Nat) : Int) := by omega
    obtain ⟨b, off, rfl, hr⟩ := hp.at_ (fun e => by rw [e] at hj; exact absurd hj (Nat.not_lt_zero _));obtain ⟨sx, Ax, nx, cx, tx, Bx, mx, dx, e0, e1, e2, e3, hx⟩ := (hr.ext ext).at_ k hj;have e0' : wr.cell? ⟨b, off + k * 4, none⟩ = some (.bool sx) := by rw [Nat.mul_comm]; exact e0
    have e1' : wr.cell? ⟨b, off + k * 4 + 1, none⟩ = some (.slice Ax nx cx) := by rw [Nat.mul_comm]; exact e1
    have e2' : wr.cell? ⟨b, off + k * 4 + 2, none⟩ = some (.bool tx) := by rw [Nat.mul_comm]; exact e2
    have e3' : wr.cell? ⟨b, off + k * 4 + 3, none⟩ = some (.slice Bx mx dx) := by rw [Nat.mul_comm]; exact e3
    clear e0 e1 e2 e3;have HT := Lib.hid (show maxA (ts.take (k + 1)) = if 0 < ratCmp (absQ ts[k]) (maxA (ts.take k)) then absQ ts[k] else maxA (ts.take k) by rw [List.take_succ_eq_append_getElem hj, maxA_snoc]);generalize ts[k] = q at hx HT;generalize maxA (ts.take k) = gv at hg HT
    go_upto_region 8 with (fail)
    obtain ⟨W5, hW5, ext5, b5, hz5⟩ := box1 wr 27 #[.bool sx, .slice Ax nx cx, .bool tx, .slice Bx mx dx];rw [<- hW5];clear hW5 hz5 e0' e1' e2' e3' hr;replace hx := hx.ext ext5;replace hg := hg.ext ext5;replace b3 := b3.ext ext5;replace ext := ext.trans ext5;clear ext5;have x0 := b5.cell 0 (.bool sx) rfl;have x1 := b5.cell 1 (.slice Ax nx cx) rfl;have x2 := b5.cell 2 (.bool tx) rfl;have x3 := b5.cell 3 (.slice Bx mx dx) rfl
    go_wp2_with fail
    refine (p_absR hx (by omega)).mono ?_;rintro e W6 ⟨s5, A5, n5, c5, t5, B5, m5, d5, rfl, h5, hx6⟩;clear x0 x1 x2 x3 b5 hx
    go_upto_region 9 with (fail)
    obtain ⟨W7, hW7, ext7, b6, hz7⟩ := box1 W6 27 #[.bool s5, .slice A5 n5 c5, .bool t5, .slice B5 m5 d5];rw [<- hW7];clear hW7 hz7;have hx7 := hx6.trans ext7;replace hg := hg.ext hx7;replace b3 := b3.ext hx7;replace ext := ext.trans hx7;replace h5 := h5.ext ext7;clear hx6 ext7 hx7;generalize W6.heap.size = g6 at b6 ⊢;have x0 := b6.cell 0 (.bool s5) rfl;have x1 := b6.cell 1 (.slice A5 n5 c5) rfl;have x2 := b6.cell 2 (.bool t5) rfl;have x3 := b6.cell 3 (.slice B5 m5 d5) rfl;have y0 := b3.cell 0 (.bool sg) rfl;have y1 := b3.cell 1 (.slice Ag ng cg) rfl;have y2 := b3.cell 2 (.bool tg) rfl;have y3 := b3.cell 3 (.slice Bg mg dg) rfl
    go_wp2_with fail
    refine (p_CmpR h5 hg (by omega) (by omega) (by omega)).mono ?_;rintro e W8 ⟨rfl, hx8⟩;replace hg := hg.ext hx8;replace b3 := b3.ext hx8;replace b6 := b6.ext hx8;replace ext := ext.trans hx8;replace h5 := h5.ext hx8;clear hx8 x0 x1 x2 x3 y0 y1 y2 y3
    by_cases hc : 0 < ratCmp (absQ q) gv
    ·have HT2 := Lib.hid (show maxA (ts.take (k + 1)) = absQ q by rw [HT.out, if_pos hc])
     have x0 := b6.cell 0 (.bool s5) rfl;have x1 := b6.cell 1 (.slice A5 n5 c5) rfl;have x2 := b6.cell 2 (.bool t5) rfl;have x3 := b6.cell 3 (.slice B5 m5 d5) rfl;have z0 := b3.cell 0 _ rfl;have z1 := b3.cell 1 _ rfl;have z2 := b3.cell 2 _ rfl;have z3 := b3.cell 3 _ rfl;have f0 := b3.frozen 0;have f1 := b3.frozen 1;have f2 := b3.frozen 2;have f3 := b3.frozen 3;obtain ⟨S, hS, dS⟩ : ∃ S, ratCmp (absQ q) gv = S /\ decide (0 < S) = true := ⟨_, rfl, decide_eq_true hc⟩;rw [hS];clear hS hc HT
     go_wp2_with fail
     obtain ⟨q1, q2, q3, q4⟩ := fin_quad (s := s5) (A := A5) (n := n5) (c := c5) (t := t5) (B := B5) (m := m5) (d := d5) b3;unfold set4 at q1 q2 q3 q4
     go_roundw
     case rel => exact ⟨k + 1, s5, A5, n5, c5, t5, B5, m5, d5, by omega, by go_num, q3 _ ext hsz, q1, by rw [HT2.out]; exact ⟨q2 _ _ _ _ _ _ h5.num, q2 _ _ _ _ _ _ h5.den⟩⟩
     case measure => simp [intOf]; omega
    ·have HT2 := Lib.hid (show maxA (ts.take (k + 1)) = gv by rw [HT.out, if_neg hc])
     obtain ⟨S, hS, dS⟩ : ∃ S, ratCmp (absQ q) gv = S /\ decide (0 < S) = false := ⟨_, rfl, decide_eq_false hc⟩;rw [hS];clear hS hc HT
     go_wp2_with fail
     go_roundw
     case rel => exact ⟨k + 1, sg, Ag, ng, cg, tg, Bg, mg, dg, by omega, by go_num, ext, b3, by rw [HT2.out]; exact hg⟩
     case measure => simp [intOf]; omega
   ·have hkn : k = n1 - 1 := by omega
    have HK := Lib.hid hkn;rw [hkn] at hg ⊢;have hkI : ((n1 - 1 : Nat) : Int) <= ((n1 - 1 : Nat) : Int) := Int.le_refl _;clear hkn
    go_wp2_with fail
    have hp := hp.ext ext;have hT := hT.ext (extW.trans ext);have ES0 := Ext.refl wr;refine wp_region_held_drew (S := Ext wr) (by kernel_rfl) ES0.drew (fun ES => ?_);clear ES0;refine Late.start1 (x := ⟨8, 7, 27, #[Value.bool false, Value.slice none 0 0, Value.bool false, Value.slice none 0 0]⟩) (n := 10) ⟨_, rfl, rfl, rfl, fun a w => by go_simp⟩ (fun _ _ _ _ _ => ⟨fun h => h, fun h => h⟩) ES rfl (fun hAl hQ => ?_);refine Late.t 0 35 ?v_0 hQ ?y_0 ?_
    case y_0 => intro w' hSw;have k00 := (b3.ext hSw).c4;go_simp;try rfl
    try simp only [zP]
    refine Late.t 1 36 ?v_1 hQ ?y_1 ?_
    case y_1 => intro w' hSw;go_simp;try rfl
    try simp only [zP]
    refine Late.cl (i := 2) rfl hAl hQ (fun w2 e2 E2 K hK => ?_);go_simp
    (go_at_call 87; refine (p_lastR (hp.ext E2) (by omega) (by omega)).mono ?_; rintro e wk1 ⟨s5, A5, n5, c5, t5, B5, m5, d5, rfl, h5, hx2⟩)
    refine hK.out _ _ hx2 ?_;clear hK K
    try simp only [zP]
    refine Late.cl (i := 3) rfl hAl hQ (fun w3 e3 E3 K hK => ?_);go_simp
    (go_at_call 84; refine (p_absR (h5.ext e3) (by omega)).mono ?_; rintro e wk2 ⟨s6, A6, n6, c6, t6, B6, m6, d6, rfl, h6, hx3⟩)
    refine hK.out _ _ hx3 ?_;clear hK K
    try simp only [zP]
    refine Late.cl (i := 4) rfl hAl hQ (fun w4 e4 E4 K hK => ?_);go_simp
    (go_at_call 86; refine (p_Div_nz (hg.ext E4) (h6.ext e4) (by omega) (by omega) (by omega) (hT.ext E4) HNZ.out).mono ?_; rintro e wk3 ⟨s8, A8, n8, c8, t8, B8, m8, d8, rfl, h8, hx4⟩)
    refine hK.out _ _ hx4 ?_;clear hK K
    try simp only [zP]
    refine Late.t 5 34 ?v_2 hQ ?y_2 ?_
    case y_2 => intro w' hSw;go_simp;try rfl
    try simp only [zP]
    refine Late.t 6 40 ?v_3 hQ ?y_3 ?_
    case y_3 => intro w' hSw;go_simp;try rfl
    try simp only [zP]
    refine Late.t 7 41 ?v_4 hQ ?y_4 ?_
    case y_4 => intro w' hSw;go_simp;try rfl
    try simp only [zP]
    refine Late.finish1 (hAl _ (by simp)) (by kernel_rfl) (fun wz g5 ez Ez lg5 xb1 => ?_);clear hAl hQ ES;have p10 := xb1.cell 0 (Value.bool false) rfl;have f10 := xb1.frozen 0;have p11 := xb1.cell 1 (Value.slice none 0 0) rfl;have f11 := xb1.frozen 1;have p12 := xb1.cell 2 (Value.bool false) rfl;have f12 := xb1.frozen 2;have p13 := xb1.cell 3 (Value.slice none 0 0) rfl;have f13 := xb1.frozen 3;have e4 := fin_quad (s := s8) (A := A8) (n := n8) (c := c8) (t := t8) (B := B8) (m := m8) (d := d8) xb1
    try simp only [zP]
    refine wpAnyH_ready (rs := [9]) (by kernel_rfl) (by simp) (AllReadyH.cons rfl (fun K hK => ?_) AllReadyH.nil);go_simp;refine hK.out _ _ (e4.2.2.1 _ Ez lg5) (fun _ => ?_);clear hK K
    try simp only [zP]
    refine any_world (fun U => Ext wr U /\ Box U g5 27 #[.bool s8, .slice A8 n8 c8, .bool t8, .slice B8 m8 d8] /\ NR U (maxA (ts.take (n1 - 1)) / absQ (ts.getLastD 0)) (L + L) s8 A8 n8 c8 t8 B8 m8 d8) ⟨e4.2.2.1 _ Ez lg5, e4.1, ⟨e4.2.1 _ _ _ _ _ _ (h8.ext ez).num, e4.2.1 _ _ _ _ _ _ (h8.ext ez).den⟩⟩ ?_;clear e4 p10 f10 p11 f11 p12 f12 p13 f13 xb1 h8;rintro U ⟨EU, b7, h8⟩;refine wpAnyH_ready (rs := [10]) (by kernel_rfl) (by simp) (AllReadyH.cons rfl (fun K hK => ?_) AllReadyH.nil);go_simp;refine hK.out _ _ EU (fun _ => ?_);clear hK K
    try simp only [zP]
    refine wpAnyH_done (by kernel_rfl) ?_ _
    go_wp2_with fail
    have bz := bz.ext (ext.trans EU);have extW := extW.trans (ext.trans EU);have hT := hT.ext EU;refine wpL.st 3 (fun hQ ES => ?_);refine wpL.t 1 43 ?v_5 hQ ?y_5 ES ?_
    case y_5 => intro w' hSw;have k00 := (b7.ext hSw).c4;go_simp;try rfl
    try simp only [zP]
    refine wpL.cl (i := 0) rfl (fun K hK => ?_);go_simp
    (go_at_call 69; refine (p_FromIntR 1 (by omega) (by omega)).mono ?_; rintro e wa ⟨s1, A1', n1', c1', t1, B1, m1, d1, rfl, h1, hx0⟩; have E0_13 := Ext.trans ES hx0)
    refine hK.out _ _ E0_13 ?_;clear hK K
    try simp only [zP]
    refine wpL.cl (i := 2) rfl (fun K hK => ?_);go_simp
    (go_at_call 53; refine (p_AddR h1 (h8.ext E0_13) (by omega) (by omega) (by omega) (hT.ext E0_13)).mono ?_; rintro e wb ⟨s7, A7, n7, c7, t7, B7, m7, d7, rfl, h7, hx1⟩; have E1_13 := Ext.trans E0_13 hx1)
    refine hK.out _ _ E1_13 ?_;clear hK K
    try simp only [zP]
    have z0 := (bz.ext E1_13).cell 0 _ rfl;have z1 := (bz.ext E1_13).cell 1 _ rfl;have z2 := (bz.ext E1_13).cell 2 _ rfl;have z3 := (bz.ext E1_13).cell 3 _ rfl;have f0 := (bz.ext E1_13).frozen 0;have f1 := (bz.ext E1_13).frozen 1;have f2 := (bz.ext E1_13).frozen 2;have f3 := (bz.ext E1_13).frozen 3;refine wpL.tl (i := 3) rfl (fun K hK => ?_);go_simp;refine hK.out _ _ ?_;clear hK K
    try simp only [zP]
    refine wpL.done (by kernel_rfl) ?_ _;clear hQ
    go_wp2_with fail
    obtain ⟨b1, b2, b3, b4⟩ := fin_quad (s := s7) (A := A7) (n := n7) (c := c7) (t := t7) (B := B7) (m := m7) (d := d7) (bz.ext E1_13);have r0 := b1.cell 0 (.bool s7) rfl;have r1 := b1.cell 1 (.slice A7 n7 c7) rfl;have r2 := b1.cell 2 (.bool t7) rfl;have r3 := b1.cell 3 (.slice B7 m7 d7) rfl;unfold set4 at r0 r1 r2 r3;refine bodyPost_ret (v := .agg #[.bool s7, .slice A7 n7 c7, .bool t7, .slice B7 m7 d7]) (by simp [results, Tryz.results41, go_sem, r0, r1, r2, r3]) rfl ⟨s7, A7, n7, c7, t7, B7, m7, d7, rfl, ⟨?_, ?_⟩, b3 _ (extW.trans E1_13) (by omega)⟩
    ·rw [<- HR1.out]; exact (b2 _ _ _ _ _ _ h7.num).le (by omega)
    ·rw [<- HR1.out]; exact (b2 _ _ _ _ _ _ h7.den).le (by omega)
end
def powF : Nat -> Nat -> Nat -> Nat -> Nat -> Nat
 | 0, _, _, r, _ => r
 | f + 1, x, e, r, p => if e = 0 then r else powF f (x * x % p) (e / 2) (if e % 2 = 1 then r * x % p else r) p
theorem powF_lt : ∀ (f x e r p : Nat), 0 < p -> r < 4294967296 -> p < 4294967296 -> powF f x e r p < 4294967296
 | 0, _, _, r, _, _, h, _ => h
 | f + 1, x, e, r, p, hp, h, hp2 => by
  unfold powF
  split
  ·exact h
  ·refine powF_lt f _ _ _ p hp ?_ hp2
   split
   ·exact Nat.lt_trans (Nat.mod_lt _ hp) hp2
   ·exact h
def powM (x e p : Nat) : Nat := powF 64 x e 1 p
theorem powM_lt {x e p : Nat} (h : 0 < p) (hp : p < 4294967296) : powM x e p < 4294967296 := powF_lt _ _ _ _ _ h (by omega) hp
theorem wrap_mul {a b : Nat} (ha : a < 4294967296) (hb : b < 4294967296) : IntKind.u64.wrap ((a : Int) * (b : Int)) = ((a * b : Nat) : Int) := by
 have h : a * b <= 4294967295 * 4294967295 := Nat.mul_le_mul (by omega) (by omega);rw [<- Int.natCast_mul];exact IntWalk.u64_in _ (by omega)
theorem tmod_nat (a b : Nat) : ((a : Nat) : Int).tmod (b : Int) = ((a % b : Nat) : Int) := rfl
set_option maxRecDepth 100000 in
theorem p_power {x e p : Nat} {w : World} (hx : x < 4294967296) (he : e < 18446744073709551616) (hp0 : 0 < p) (hp : p < 4294967296) : Calls Tryz.prog 186 #[.int .u64 (x : Int), .int .u64 (e : Int), .int .u64 (p : Int)] w fun v w' => v = .returned (.int .u64 ((powM x e p : Nat) : Int)) /\ w' = w := by
 obtain ⟨R, hR⟩ : ∃ R, powM x e p = R := ⟨_, rfl⟩;rw [hR];have HR := Lib.hid hR;have HE := Lib.hid (show e < 2 ^ 64 from he);have HX := Lib.hid hx;have HP := Lib.hid (show 0 < p /\ p < 4294967296 from ⟨hp0, hp⟩);have hpn : p ≠ 0 := by omega
 clear hR he hx hp hp0
 go_enter Tryz.func186, Tryz.ntmps186
 go_wp2_with fail
 go_loopw [0, 1, 7] (fun v0 v1 v7 wr => ∃ (f x' e' r' : Nat), v0 = .int .u64 (x' : Int) /\ v1 = .int .u64 (e' : Int) /\ v7 = .int .u64 (r' : Int) /\ wr = w /\ powF f x' e' r' p = R /\ (e' < 2 ^ f /\ e' < 18446744073709551616 /\ x' < 4294967296 /\ r' < 4294967296)) (fun _ v1 _ _ => (intOf v1).toNat)
 case atStart => exact ⟨64, x, e, 1, rfl, rfl, rfl, rfl, HR.out, HE.out, HE.out, HX.out, by omega⟩
 case round =>
  obtain ⟨f, x', e', r', rfl, rfl, rfl, rfl, hF, hE⟩ := hrel;have HF := Lib.hid hF;have HE2 := Lib.hid hE;clear hF hE
  rcases Nat.eq_zero_or_pos e' with h0 | h0
  ·subst h0
   have hres : r' = R := by
    have := HF.out
    cases f <;> simpa [powF] using this
   subst hres
   go_wp2_with fail
   go_ret
   exact ⟨rfl, rfl⟩
  ·obtain ⟨f, rfl⟩ : ∃ g, f = g + 1 := by
    cases f with
    | zero => have := HE2.out; omega
    | succ g => exact ⟨g, rfl⟩
   have hlt0 : (0 : Int) < (e' : Int) := by omega
   obtain ⟨q, hq⟩ : ∃ q, e' / 2 = q := ⟨_, rfl⟩;obtain ⟨y, hy⟩ : ∃ y, x' * x' = y := ⟨_, rfl⟩;obtain ⟨u, hu⟩ : ∃ u, r' * x' = u := ⟨_, rfl⟩;have hwy : IntKind.u64.wrap ((x' : Int) * (x' : Int)) = (y : Int) := by rw [wrap_mul HE2.out.2.2.1 HE2.out.2.2.1, hy]
   have hwu : IntKind.u64.wrap ((r' : Int) * (x' : Int)) = (u : Int) := by rw [wrap_mul HE2.out.2.2.2 HE2.out.2.2.1, hu]
   obtain ⟨ym, hym⟩ : ∃ ym, y % p = ym := ⟨_, rfl⟩;obtain ⟨um, hum⟩ : ∃ um, u % p = um := ⟨_, rfl⟩;have hty : (y : Int).tmod (p : Int) = (ym : Int) := by rw [<- hym]; rfl
   have htu : (u : Int).tmod (p : Int) = (um : Int) := by rw [<- hum]; rfl
   have hyl : ym < 4294967296 := by rw [<- hym]; exact Nat.lt_trans (Nat.mod_lt _ HP.out.1) HP.out.2
   have hul : um < 4294967296 := by rw [<- hum]; exact Nat.lt_trans (Nat.mod_lt _ HP.out.1) HP.out.2
   have hyw : IntKind.u64.wrap (ym : Int) = (ym : Int) := wrap_u64_nat (by omega);have huw : IntKind.u64.wrap (um : Int) = (um : Int) := wrap_u64_nat (by omega);have hq1 : (e' : Int).tdiv 2 = (q : Int) := by rw [<- hq]; rfl
   have hqb : q < 2 ^ f /\ q < 18446744073709551616 /\ q < e' := by have h1 := HE2.out.1; have h2 := HE2.out.2.1; rw [Nat.pow_succ] at h1; omega
   have hqw : IntKind.u64.wrap (q : Int) = (q : Int) := wrap_u64_nat hqb.2.1;have HQB := Lib.hid hqb;have hF := HF.out;unfold powF at hF;rw [if_neg (by omega), hq, hy, hu, hym, hum] at hF;have HYL := Lib.hid hyl;have HUL := Lib.hid hul;have HX2 := Lib.hid HE2.out.2.2.2;have hqe : q < e' := hqb.2.2;clear HF HE2 hq hy hu hym hum hyl hul hqb
   by_cases ho : e' % 2 = 1
   ·rw [if_pos ho] at hF
    have HF := Lib.hid hF;have hm : (e' : Int).tmod 2 = 1 := by rw [show (2 : Int) = ((2 : Nat) : Int) from rfl, tmod_nat, ho]; rfl
    clear hF ho
    go_wp2_with fail
    refine ⟨⟨f, ym, q, um, rfl, rfl, rfl, trivial, HF.out, HQB.out.1, HQB.out.2.1, HYL.out, HUL.out⟩, ?_⟩;simp only [intOf];omega
   ·rw [if_neg ho] at hF
    have HF := Lib.hid hF;have hm : (e' : Int).tmod 2 = 0 := by rw [show (2 : Int) = ((2 : Nat) : Int) from rfl, tmod_nat, show e' % 2 = 0 by omega]; rfl
    clear hF ho
    go_wp2_with fail
    refine ⟨⟨f, ym, q, r', rfl, rfl, rfl, trivial, HF.out, HQB.out.1, HQB.out.2.1, HYL.out, HX2.out⟩, ?_⟩;simp only [intOf];omega
theorem p_inverse {x p : Nat} {w : World} (hx : x < 4294967296) (hp0 : 2 <= p) (hp : p < 4294967296) : Calls Tryz.prog 170 #[.int .u64 (x : Int), .int .u64 (p : Int)] w fun v w' => v = .returned (.int .u64 ((powM x (p - 2) p : Nat) : Int)) /\ w' = w := by
 have he : (p : Int) - 2 = ((p - 2 : Nat) : Int) := by omega
 have hw : IntKind.u64.wrap ((p - 2 : Nat) : Int) = ((p - 2 : Nat) : Int) := wrap_u64_nat (by omega);have HH := Lib.hid (show x < 4294967296 /\ p - 2 < 18446744073709551616 /\ 0 < p /\ p < 4294967296 by omega);clear hx hp0 hp
 go_enter Tryz.func170, Tryz.ntmps170
 go_wp2_with fail
 refine (p_power HH.out.1 HH.out.2.1 HH.out.2.2.1 HH.out.2.2.2).mono ?_;rintro e V ⟨rfl, rfl⟩
 go_wp2_with fail
 go_ret
 exact ⟨rfl, rfl⟩
def oddF : Nat -> Nat -> Nat
 | 0, m => m
 | f + 1, m => if m % 2 = 0 then oddF f (m / 2) else m
def milF : Nat -> Nat -> Nat -> Nat -> Bool
 | 0, _, _, _ => false
 | f + 1, o, x, n => if o < n - 1 then (if x = n - 1 then true else milF f (o * 2) (x * x % n) n) else false
def mrB (n base : Nat) : Bool := if powM base (oddF 64 (n - 1)) n = 1 then true else milF 64 (oddF 64 (n - 1)) (powM base (oddF 64 (n - 1)) n) n
def primeB (n : Nat) : Bool := (n % 2 = 1) && (mrB n 2 && (mrB n 7 && mrB n 61))
def belowF : Nat -> Nat -> Nat
 | 0, n => n
 | f + 1, n => if primeB n then n else belowF f (n - 1)
set_option maxRecDepth 100000 in
theorem p_isProbable {n base : Nat} {w : World} (hn : 3 <= n) (hn2 : n < 4294967296) (hb : base < 4294967296) (hodd : 0 < oddF 64 (n - 1)) : Calls Tryz.prog 184 #[.int .u64 (n : Int), .int .u64 (base : Int)] w fun v w' => v = .returned (.bool (mrB n base)) /\ w' = w := by
 obtain ⟨R, hR⟩ : ∃ R, mrB n base = R := ⟨_, rfl⟩;obtain ⟨O, hO⟩ : ∃ O, oddF 64 (n - 1) = O := ⟨_, rfl⟩;obtain ⟨n1, hn1⟩ : ∃ n1, n - 1 = n1 := ⟨_, rfl⟩;have hnI : (n : Int) - 1 = (n1 : Int) := by omega
 have HN := Lib.hid (show 3 <= n /\ n < 4294967296 /\ n1 < 4294967296 /\ n = n1 + 1 by omega);have hn1w : IntKind.u64.wrap (n1 : Int) = (n1 : Int) := wrap_u64_nat (by omega);have hnn : n ≠ 0 := by omega
 rw [hR];unfold mrB at hR;rw [hO] at hR hodd;rw [hn1] at hO;have HR := Lib.hid hR;have HO := Lib.hid hO;have HB := Lib.hid hb;have HOD := Lib.hid hodd;clear hR hO hb hn hn2 hn1 hodd
 go_enter Tryz.func184, Tryz.ntmps184
 go_wp2_with fail
 go_loopw [5] (fun v5 wr => ∃ (f m : Nat), v5 = .int .u64 (m : Int) /\ wr = w /\ (oddF f m = O /\ m < 4294967296 /\ m < 2 ^ f)) (fun v5 _ => (intOf v5).toNat)
 case atStart => exact ⟨64, n1, rfl, rfl, HO.out, HN.out.2.2.1, Nat.lt_trans HN.out.2.2.1 (by decide)⟩
 case round =>
  obtain ⟨f, m, rfl, rfl, hF⟩ := hrel;have HF := Lib.hid hF;clear hF
  by_cases he : m % 2 = 0
  ·have hm : (m : Int).tmod 2 = 0 := by rw [show (2 : Int) = ((2 : Nat) : Int) from rfl, tmod_nat, he]; rfl
   have hmpos : 0 < m := by
    rcases Nat.eq_zero_or_pos m with h | h
    ·exfalso
     have h1 := HF.out.1;have h2 := HOD.out;rw [h] at h1
     have hz : ∀ f, oddF f 0 = 0 := by
      intro f
      induction f with
      | zero => rfl
      | succ f ih => unfold oddF; rw [if_pos rfl]; exact ih
     rw [hz] at h1;omega
    ·exact h
   obtain ⟨f, rfl⟩ : ∃ g, f = g + 1 := by
    cases f with
    | zero => have := HF.out.2.2; omega
    | succ g => exact ⟨g, rfl⟩
   obtain ⟨q, hq⟩ : ∃ q, m / 2 = q := ⟨_, rfl⟩;have hq1 : (m : Int).tdiv 2 = (q : Int) := by rw [<- hq]; rfl
   have HQ := Lib.hid (show oddF f q = O /\ q < 4294967296 /\ q < 2 ^ f by
    have h1 := HF.out.1;have h2 := HF.out.2.1;have h3 := HF.out.2.2;unfold oddF at h1;rw [if_pos he, hq] at h1;rw [Nat.pow_succ] at h3;exact ⟨h1, by omega, by omega⟩)
   have hqw : IntKind.u64.wrap (q : Int) = (q : Int) := wrap_u64_nat (by have := HQ.out.2.1; omega);have hqm : q < m := by omega
   clear he hq HF
   go_wp2_with fail
   refine ⟨⟨f, q, rfl, trivial, HQ.out⟩, ?_⟩;simp only [intOf];omega
  ·have hm : (m : Int).tmod 2 = 1 := by rw [show (2 : Int) = ((2 : Nat) : Int) from rfl, tmod_nat, show m % 2 = 1 by omega]; rfl
   have hres : m = O := by
    have h1 := HF.out.1
    cases f with
    | zero => exact h1
    | succ g => unfold oddF at h1; rw [if_neg he] at h1; exact h1
   have HM := Lib.hid HF.out.2.1;clear HF he;subst hres
   go_wp2_with fail
   refine (p_power HB.out (by have := HM.out; omega) (by omega) HN.out.2.1).mono ?_;rintro e V ⟨rfl, rfl⟩;have HX := Lib.hid (powM_lt (x := base) (e := m) (show 0 < n by omega) HN.out.2.1);generalize hx : powM base m n = x at *;have hr := HR.out
   by_cases h1 : x = 1
   ·rw [if_pos h1] at hr
    have HR2 := Lib.hid hr;clear hr;subst h1
    go_wp2_with fail
    go_ret
    exact ⟨by first | rfl | (rw [HR2.out]; rfl), rfl⟩
   ·rw [if_neg h1] at hr
    have HR2 := Lib.hid hr;have hx1 : ((x : Int) == 1) = false := beq_eq_false_iff_ne.2 (by omega);clear hr h1 hx hm
    go_wp2_with fail
    have hmo : m < 4294967296 := HM.out
    go_loopw [5, 6] (fun v5 v6 wr => ∃ (f o y : Nat), v5 = .int .u64 (o : Int) /\ v6 = .int .u64 (y : Int) /\ wr = V /\ (milF f o y n = R /\ 0 < o /\ o < 2 ^ 33 /\ 2 ^ 33 < o * 2 ^ f /\ y < 4294967296)) (fun v5 _ _ => n1 - (intOf v5).toNat)
    case atStart => exact ⟨64, m, x, rfl, rfl, rfl, HR2.out, HOD.out, by have := HM.out; omega, by have := HOD.out; omega, HX.out⟩
    case round =>
     obtain ⟨f, o, y, rfl, rfl, rfl, hF⟩ := hrel;have HF := Lib.hid hF;clear hF hmo
     obtain ⟨f, rfl⟩ : ∃ g, f = g + 1 := by
      cases f with
      | zero => have := HF.out.2.2; omega
      | succ g => exact ⟨g, rfl⟩
     by_cases hlt : o < n1
     ·have hltI : (o : Int) < (n1 : Int) := by omega
      have hF := HF.out.1;unfold milF at hF;rw [if_pos (by have := HN.out; omega)] at hF
      by_cases hy : y = n1
      ·have hyn : y = n - 1 := by have := HN.out; omega
       rw [if_pos hyn] at hF;have HR3 := Lib.hid hF;clear hF hyn HF;subst hy
       go_wp2_with fail
       go_ret
       exact ⟨by first | rfl | (rw [HR3.out]; rfl), rfl⟩
      ·have hyn : ¬ y = n - 1 := by have := HN.out; omega
       rw [if_neg hyn] at hF;have hyb : ((y : Int) == (n1 : Int)) = false := beq_eq_false_iff_ne.2 (by omega);obtain ⟨z, hz⟩ : ∃ z, y * y = z := ⟨_, rfl⟩;have hwz : IntKind.u64.wrap ((y : Int) * (y : Int)) = (z : Int) := by rw [wrap_mul HF.out.2.2.2.2 HF.out.2.2.2.2, hz]
       obtain ⟨zm, hzm⟩ : ∃ zm, z % n = zm := ⟨_, rfl⟩;have htz : (z : Int).tmod (n : Int) = (zm : Int) := by rw [<- hzm]; rfl
       have hzl : zm < 4294967296 := by rw [<- hzm]; exact Nat.lt_trans (Nat.mod_lt _ (by omega)) HN.out.2.1
       have hzw : IntKind.u64.wrap (zm : Int) = (zm : Int) := wrap_u64_nat (by omega);obtain ⟨o2, ho2⟩ : ∃ o2, o * 2 = o2 := ⟨_, rfl⟩;have how : (o : Int) * 2 = (o2 : Int) := by omega
       have ho2b : o2 < 2 ^ 33 := by have := HN.out; omega
       have how2 : IntKind.u64.wrap (o2 : Int) = (o2 : Int) := wrap_u64_nat (Nat.lt_trans ho2b (by decide));rw [hz, hzm, ho2] at hF
       have HF2 := Lib.hid (show milF f o2 zm n = R /\ 0 < o2 /\ o2 < 2 ^ 33 /\ 2 ^ 33 < o2 * 2 ^ f /\ zm < 4294967296 from ⟨hF, by have := HF.out.2.1; omega, ho2b, by
        have h4 := HF.out.2.2.2.1;have e : o * 2 ^ (f + 1) = o2 * 2 ^ f := by rw [<- ho2, Nat.pow_succ, Nat.mul_assoc, Nat.mul_comm 2]
        rw [e] at h4;exact h4, hzl⟩)
       have hoo : o < o2 := by have := HF.out.2.1; omega
       clear hF HF hz hzm hzl ho2b hyn hy
       go_wp2_with fail
       refine ⟨⟨f, o2, zm, rfl, rfl, trivial, HF2.out⟩, ?_⟩;simp only [intOf];omega
     ·have hltI : (n1 : Int) <= (o : Int) := by omega
      have hF := HF.out.1;unfold milF at hF;rw [if_neg (by have := HN.out; omega)] at hF;have HR3 := Lib.hid hF;clear hF HF
      go_wp2_with fail
      go_ret
      exact ⟨by first | rfl | (rw [HR3.out]; rfl), rfl⟩
set_option maxRecDepth 100000 in
theorem p_isPrime {n : Nat} {w : World} (hn : 3 <= n) (hn2 : n < 4294967296) (hodd : 0 < oddF 64 (n - 1)) : Calls Tryz.prog 167 #[.int .u64 (n : Int)] w fun v w' => v = .returned (.bool (primeB n)) /\ w' = w := by
 obtain ⟨R, hR⟩ : ∃ R, primeB n = R := ⟨_, rfl⟩;rw [hR];unfold primeB at hR;have HN := Lib.hid (show 3 <= n /\ n < 4294967296 from ⟨hn, hn2⟩);have hcall := fun (b : Nat) (w : World) (hb : b < 4294967296) => p_isProbable (w := w) hn hn2 hb hodd
 have hnn : n ≠ 0 := by omega
 clear hn hn2 hodd
 by_cases ho : n % 2 = 1
 ·have hm : (n : Int).tmod 2 = 1 := by rw [show (2 : Int) = ((2 : Nat) : Int) from rfl, tmod_nat, ho]; rfl
  simp only [ho, decide_true, Bool.true_and] at hR;clear ho;have HR := Lib.hid hR;clear hR
  go_enter Tryz.func167, Tryz.ntmps167
  go_wp2_with fail
  refine (hcall 2 w (by omega)).mono ?_;rintro e V ⟨rfl, rfl⟩
  cases h2 : mrB n 2 with
  | false =>
   have hr := HR.out;rw [h2, Bool.false_and] at hr;subst hr
   go_wp2_with fail
   go_ret
   exact ⟨rfl, rfl⟩
  | true =>
   have hr := HR.out;rw [h2, Bool.true_and] at hr;have HR2 := Lib.hid hr;clear hr
   go_wp2_with fail
   refine (hcall 7 V (by omega)).mono ?_;rintro e V2 ⟨rfl, rfl⟩
   cases h7 : mrB n 7 with
   | false =>
    have hr := HR2.out;rw [h7, Bool.false_and] at hr;subst hr
    go_wp2_with fail
    go_ret
    exact ⟨rfl, rfl⟩
   | true =>
    have hr := HR2.out;rw [h7, Bool.true_and] at hr;have HR3 := Lib.hid hr;clear hr
    go_wp2_with fail
    refine (hcall 61 V2 (by omega)).mono ?_;rintro e V3 ⟨rfl, rfl⟩;rw [HR3.out]
    go_wp2_with fail
    go_ret
    exact ⟨rfl, rfl⟩
 ·have hm : (n : Int).tmod 2 = 0 := by rw [show (2 : Int) = ((2 : Nat) : Int) from rfl, tmod_nat, show n % 2 = 0 by omega]; rfl
  simp only [ho, decide_false, Bool.false_and] at hR;subst hR;clear ho
  go_enter Tryz.func167, Tryz.ntmps167
  go_wp2_with fail
  go_ret
  exact ⟨rfl, rfl⟩
def DownOK (n : Nat) : Prop := 3 <= n /\ n < 4294967296 /\ 0 < oddF 64 (n - 1)
set_option maxRecDepth 100000 in
theorem p_primeBelow {n f P : Nat} {w : World} (hn : 4 <= n) (hn2 : n <= 4294967296) (hP : belowF f (n - 1) = P) (hP1 : primeB P = true) (hd : ∀ m, m <= n - 1 -> n - 1 < m + f -> DownOK m) (hd0 : DownOK P) : Calls Tryz.prog 148 #[.int .u64 (n : Int)] w fun v w' => v = .returned (.int .u64 (P : Int)) /\ w' = w := by
 obtain ⟨n1, hn1⟩ : ∃ n1, n - 1 = n1 := ⟨_, rfl⟩;have hnI : (n : Int) - 1 = (n1 : Int) := by omega
 have hn1w : IntKind.u64.wrap (n1 : Int) = (n1 : Int) := wrap_u64_nat (by omega);rw [hn1] at hP hd;have HP := Lib.hid hP;have HP1 := Lib.hid hP1;have HD := Lib.hid hd;have HD0 := Lib.hid hd0;have HN := Lib.hid hn2;clear hP hP1 hd hd0 hn2
 go_enter Tryz.func148, Tryz.ntmps148
 go_wp2_with fail
 go_loopw [0] (fun v0 wr => ∃ (g m : Nat), v0 = .int .u64 (m : Int) /\ wr = w /\ (belowF g m = P /\ g <= f /\ m <= n1 /\ n1 + g = m + f)) (fun v0 _ => (intOf v0).toNat)
 case atStart => exact ⟨f, n1, rfl, rfl, HP.out, Nat.le_refl _, Nat.le_refl _, rfl⟩
 case round =>
  obtain ⟨g, m, rfl, rfl, hF⟩ := hrel;have HF := Lib.hid hF;clear hF
  have HM := Lib.hid (show DownOK m by
   cases g with
   | zero => have h1 := HF.out.1; have e : m = P := h1; rw [e]; exact HD0.out
   | succ g => exact HD.out m HF.out.2.2.1 (by have := HF.out.2.2.2; omega))
  go_wp2_with fail
  refine (p_isPrime HM.out.1 HM.out.2.1 HM.out.2.2).mono ?_;rintro e V ⟨rfl, rfl⟩
  cases hp : primeB m with
  | true =>
   have hres : m = P := by
    have h1 := HF.out.1
    cases g with
    | zero => exact h1
    | succ g => unfold belowF at h1; rw [if_pos hp] at h1; exact h1
   subst hres
   go_wp2_with fail
   go_ret
   exact ⟨rfl, rfl⟩
  | false =>
   obtain ⟨g, rfl⟩ : ∃ h, g = h + 1 := by
    cases g with
    | zero => have h1 := HF.out.1; have e : m = P := h1; rw [e, HP1.out] at hp; cases hp
    | succ g => exact ⟨g, rfl⟩
   obtain ⟨q, hq⟩ : ∃ q, m - 1 = q := ⟨_, rfl⟩;have hmI : (m : Int) - 1 = (q : Int) := by have := HM.out.1; omega
   have hqw : IntKind.u64.wrap (q : Int) = (q : Int) := wrap_u64_nat (by have := HM.out.2.1; omega);have hqm : q < m := by have := HM.out.1; omega
   have HF2 := Lib.hid (show belowF g q = P /\ g <= f /\ q <= n1 /\ n1 + g = q + f by
    have h1 := HF.out.1;unfold belowF at h1;rw [if_neg (by rw [hp]; decide), hq] at h1;have := HF.out;have := HM.out.1;exact ⟨h1, by omega, by omega, by omega⟩)
   clear HF hq hp HM
   go_wp2_with fail
   refine ⟨⟨g, q, rfl, trivial, HF2.out⟩, ?_⟩;simp only [intOf];omega
end
section
open Go.RowKit
attribute [local go_sem] Oper.semAt_some
attribute [local go_sem ↓] Go.wp_at_zero Go.wp_at_succ
def resW (xs : List Nat) (p k : Nat) : Nat := val (xs.drop (xs.length - k)) % p
theorem resW_zero (xs : List Nat) {p : Nat} : resW xs p 0 = 0 := by
 unfold resW;rw [Nat.sub_zero, List.drop_length];exact Nat.zero_mod _
theorem resW_succ {xs : List Nat} {p k i : Nat} (hi : i < xs.length) (hk : i + k + 1 = xs.length) : resW xs p (k + 1) = (resW xs p k * 4294967296 + xs[i]) % p := by
 unfold resW;rw [show xs.length - (k + 1) = i by omega, show xs.length - k = i + 1 by omega, List.drop_eq_getElem_cons hi]
 show (xs[i] + 4294967296 * val (xs.drop (i + 1))) % p = _
 generalize val (xs.drop (i + 1)) = v;rw [Nat.add_mod (v % p * 4294967296), Nat.mul_mod (v % p), Nat.mod_mod, <- Nat.mul_mod, <- Nat.add_mod, Nat.add_comm, Nat.mul_comm]
theorem resW_all (xs : List Nat) (p : Nat) : resW xs p xs.length = val xs % p := by
 unfold resW;rw [Nat.sub_self, List.drop_zero]
structure ResI (w1 : World) (g5 gB : Nat) (A : Option Addr) (n c : Nat) (xs : List Nat) (p : Nat) (k : Nat) (W : World) : Prop where
 ext : Ext w1 W
 bB : Box W gB 23 #[.slice A n c]
 b5 : Box W g5 103 #[.int .u64 ((resW xs p k : Nat) : Int)]
theorem ResI.own {w1 : World} {g5 gB n c p B : Nat} {A : Option Addr} {xs : List Nat} (hB : w1.heap.size <= B) : OwnFrom B (ResI w1 g5 gB A n c xs p) :=
 kc_own fun _ _ _ kc he h => ⟨he _ hB h.ext, h.bB.kc kc, h.b5.kc kc⟩
def ResA (xs : List Nat) (T : Array Value) (k : Nat) (a' : Act) : Prop :=
 ∃ (i : Nat) (hi : i < xs.length), i + k + 1 = xs.length /\ a' = { tmps := ((T.setIfInBounds 11 (.int .i64 (i : Int))).setIfInBounds 12 (.int .u32 ((xs[i] : Nat) : Int))).setIfInBounds 7 (.int .u32 ((xs[i] : Nat) : Int)), defers := [] }
theorem Rd.rdy {W : World} {g : Nat} {A : Option Addr} {n c : Nat} {xs : List Nat} (h : Rd W A xs) (hn : xs.length = n) (hB : Box W g 23 #[.slice A n c]) : RdyW g A n c W := by
 refine ⟨hB.cell 0 _ rfl, fun i hi => ?_⟩;obtain ⟨b, off, hA, _, hc⟩ := h.at_ (i := i) (by omega);exact ⟨b, off, xs[i]'(by omega), hA, hc⟩
theorem ElW.word {W : World} {A : Option Addr} {n k : Nat} {xs : List Nat} {args : Array Value} (he : ElW A n k args W) (h : Rd W A xs) (hn : xs.length = n) :
  ∃ i, ∃ hi : i < xs.length, i + k + 1 = n /\ args = #[.int .i64 (i : Int), .int .u32 ((xs[i] : Nat) : Int)] := by
 obtain ⟨i, hik, b, off, x, hA, rfl, e0⟩ := he;have hi : i < xs.length := by omega
 obtain ⟨b2, off2, hA2, _, hc⟩ := h.at_ hi;rw [hA] at hA2
 injection hA2 with hA2
 injection hA2 with h1 h2
 subst h1;subst h2;rw [e0] at hc
 injection hc with hc
 injection hc with _ hc
 exact ⟨i, hi, hik, by rw [hc]⟩
section
variable {w w' : World} {z y : Int} {L M : Nat} {s t : Bool} {A B : Option Addr} {n c m d : Nat}
set_option maxRecDepth 100000 in
theorem p_residue {p : Nat} (h : NI w z L s A n c) (hp0 : 0 < p) (hp : p < 2147483648) (hL : L <= 10000) : Calls Tryz.prog 149 #[.agg #[.bool s, .slice A n c], .int .u64 (p : Int)] w fun v w' => v = .returned (.int .u64 ((z % (p : Int)).toNat : Int)) /\ Ext w w' := by
 obtain ⟨xs, h1, h2, h3, h4, h5, h6⟩ := h.out;obtain ⟨R, hR⟩ : ∃ R, (z % (p : Int)).toNat = R := ⟨_, rfl⟩;rw [hR];have hab := h5.abs;have heq := h5.eq
 have HR := Lib.hid (show (if s = true /\ 0 < resW xs p xs.length then p - resW xs p xs.length else resW xs p xs.length) = R by
  rw [resW_all, <- hR, <- heq];unfold ival
  cases s with
  | false =>
   rw [if_neg (by simp), if_neg (by simp), <- Int.natCast_emod]
   rfl
  | true =>
   rw [if_pos rfl, Int.neg_emod]
   by_cases hd : (p : Int) ∣ ((val xs : Nat) : Int)
   ·rw [if_pos hd]
    have h0 : val xs % p = 0 := Nat.mod_eq_zero_of_dvd (Int.natCast_dvd_natCast.1 hd);rw [h0, if_neg (by simp)]
    rfl
   ·rw [if_neg hd]
    have h0 : 0 < val xs % p := Nat.pos_of_ne_zero (fun e => hd (Int.natCast_dvd_natCast.2 (Nat.dvd_of_mod_eq_zero e)));have h1 : val xs % p < p := Nat.mod_lt _ hp0;rw [if_pos ⟨rfl, h0⟩, <- Int.natCast_emod, Int.natAbs_natCast];omega)
 have HP := Lib.hid (show 0 < p /\ p < 2147483648 from ⟨hp0, hp⟩);have hpn : p ≠ 0 := by omega
 have HW := Lib.hid h2.1;clear hR hab heq h5 hp hp0;refine callsIn_wide.1 (callsIn_of_wp_marks (n := 0) Tryz.func149 rfl trivial (wpIn_wide.2 ?_) rfl);simp only [Tryz.ntmps149, List.size_toArray, List.length_cons, List.length_nil, Nat.reduceAdd, Nat.reduceSub, Array.replicate_succ, Array.replicate_zero, List.push_toArray, List.append_toArray, List.nil_append, List.cons_append]
 go_upto_region 1 with (fail)
 obtain ⟨W, hW, extW, b2, b3, hz⟩ := box2 w 25 103 #[.bool s, .slice A n c] #[.int .u64 (p : Int)];rw [<- hW];clear hW hz;obtain ⟨g2, hg2⟩ : ∃ g, w.heap.size = g := ⟨_, rfl⟩;rw [hg2] at b2 b3
 try rw [hg2]
 clear hg2
 go_upto_region 2 with (fail)
 obtain ⟨W1, hW1, ext1, b5, hz1⟩ := box1 W 103 #[.int .u64 0];rw [<- hW1];clear hW1 hz1;obtain ⟨g5, hg5⟩ : ∃ g, W.heap.size = g := ⟨_, rfl⟩;have hlt2 := b3.lt;have hsz : W.heap.size <= g5 := Nat.le_of_eq hg5;rw [hg5] at b5 hlt2
 try rw [hg5]
 clear hg5;have x1 := (b2.ext ext1).cell 1 _ rfl
 go_wp2_with fail
 refine (p_backW A n c _).mono ?_;rintro e V ⟨rfl, rfl⟩;obtain ⟨W2, hW2, ext2, bB, hz2⟩ := box1 W1 23 #[.slice A n c];rw [<- hW2];obtain ⟨gB, hgB⟩ : ∃ g, W1.heap.size = g := ⟨_, rfl⟩;have hlt5 := b5.lt;rw [hgB] at bB hlt5
 try rw [hgB]
 have hgW : W1.heap.size = gB := hgB;clear hW2 hz2 x1 hgB
 go_wp2_with fail
 have hB2 := ext1.trans ext2;refine wp_back (N := n) (gf := 185) (lb := #[.pointer (some ⟨gB, 0, none⟩)]) rfl (enters_of Tryz.func185 (by kernel_rfl) rfl) (Rdy := RdyW gB A n c) (El := ElW A n) (fun l J W hJ hY h0 => back_W (by omega) hJ hY h0) (ResI W g5 gB A n c xs p) (fun T k _ a' _ => ResA xs T k a') (ResI.own hB2.size) (fun _ _ _ => ownFrom_pure _ (fun _ => ResA xs _ _ _)) (fun k W' hI => (h2.ext (extW.trans hI.ext)).rdy h1 hI.bB) (fun k args W' he => by obtain ⟨i, _, b, off, x, _, rfl, _⟩ := he; rfl) ⟨hB2, bB, by rw [resW_zero]; exact b5.ext ext2⟩ ?assign ?body ?done
 case assign =>
  intro l k args W' hI hk he;obtain ⟨i, hi, hik, rfl⟩ := he.word (h2.ext (extW.trans hI.ext)) h1
  gi_wp2
  exact ⟨KeepsFrom.refl _ _, hI, ⟨i, hi, by omega, by simp only [List.setIfInBounds_toArray, List.set_cons_succ, List.set_cons_zero]⟩⟩
 case body =>
  rintro l k args a' W' hk hI ⟨i, hi, hik, rfl⟩;simp only [List.setIfInBounds_toArray, List.set_cons_succ, List.set_cons_zero];have hRS := resW_succ (p := p) hi hik;have hlt : resW xs p k < p := Nat.mod_lt _ HP.out.1;have hbig : resW xs p k < 4294967296 := by have := HP.out; omega
  have hxw : xs[i] < 4294967296 := HW.out _ (List.getElem_mem hi);have b3' := b3.ext hI.ext;have b5' := hI.b5;have hbB := hI.bB;have hext := hI.ext;clear hI;generalize xs[i] = x at *;generalize resW xs p k = r at *;have hor := high_or (b := r) hxw hbig;have hnl : r * 4294967296 + x < 18446744073709551616 := by omega
  have hsw : IntKind.u64.wrap ((r : Int) * 4294967296) = (r : Int) * 4294967296 := by
   obtain ⟨u, hu⟩ : ∃ u : Nat, u = r * 4294967296 := ⟨_, rfl⟩;have hu2 : (r : Int) * 4294967296 = (u : Int) := by omega
   rw [hu2];exact wrap_u64_nat (by omega)
  have hxw2 : IntKind.u64.wrap (x : Int) = (x : Int) := wrap_u64_nat (by omega);generalize r * 4294967296 + x = V at *;obtain ⟨vm, hvm⟩ : ∃ vm, V % p = vm := ⟨_, rfl⟩;have htv : (V : Int).tmod (p : Int) = (vm : Int) := by rw [<- hvm]; rfl
  have hvw : IntKind.u64.wrap (vm : Int) = (vm : Int) := wrap_u64_nat (Nat.lt_of_le_of_lt (by rw [<- hvm]; exact Nat.mod_le _ _) hnl);rw [hvm] at hRS;have HRS := Lib.hid hRS;have x0 := b5'.cell 0 _ rfl;have x1 := b3'.cell 0 _ rfl;have f0 := b5'.frozen 0;clear hRS hvm hlt hbig hxw hnl
  gi_wp2_with fail
  have F := (FinRow.refl (l := [.int .u64 (r : Int)]) b5' (by intro u hu k e; simp at hu; subst hu; cases e)).step 0 (v := .int .u64 (vm : Int)) (by intro k h; cases h);exact ⟨(KeepsOthers.setCell _ _ _).from _, F.ext _ hext hsz, F.far _ _ _ (by omega) hbB, by rw [HRS.out]; exact F.box⟩
 case done =>
  rintro D W' hD hI hd;have b2' := b2.ext hI.ext;have b3' := b3.ext hI.ext;have b5' := hI.b5;have hext := (extW.trans hI.ext);have hDw : w.heap.size <= D := Nat.le_trans (extW.trans hB2).size hD;clear hI;have hr := HR.out;rw [h1] at hr;have hrp : resW xs p n < p := Nat.mod_lt _ HP.out.1;generalize resW xs p n = r at *;have HPP := Lib.hid (show r < 2147483648 by have := HP.out; omega);have x0 := b2'.cell 0 _ rfl;have x1 := b3'.cell 0 _ rfl;have x2 := b5'.cell 0 _ rfl;clear b2 b3 b5 bB
  by_cases hc : s = true /\ 0 < r
  ·rw [if_pos hc] at hr
   obtain ⟨rfl, hr0⟩ := hc;have hrI : (0 : Int) < (r : Int) := by omega
   have hsub : (p : Int) - (r : Int) = (R : Int) := by omega
   have hsw : IntKind.u64.wrap (R : Int) = (R : Int) := wrap_u64_nat (by have := HP.out; omega);have HRR := Lib.hid hr;clear hr hrp
   go_wp2_with fail
   refine ⟨by simp, .inl ⟨_, _, rfl, run_takeDeferred hd, ?_⟩⟩;exact ⟨_, results_tmp rfl _ _ _, rfl, hext.own (B := w.heap.size) (grownBy_putObj' _ _ _) (fun r e => by cases e; exact ⟨hDw, _, hd, rfl⟩) (Nat.le_refl _)⟩
  ·rw [if_neg hc] at hr
   subst hr;clear hrp
   cases s with
   | false =>
    go_wp2_with fail
    refine ⟨by simp, .inl ⟨_, _, rfl, run_takeDeferred hd, ?_⟩⟩;exact ⟨_, results_tmp rfl _ _ _, rfl, hext.own (B := w.heap.size) (grownBy_putObj' _ _ _) (fun r e => by cases e; exact ⟨hDw, _, hd, rfl⟩) (Nat.le_refl _)⟩
   | true =>
    have hr0 : r = 0 := by
     rcases Nat.eq_zero_or_pos r with e | e
     ·exact e
     ·exact absurd ⟨rfl, e⟩ hc
    subst hr0
    go_wp2_with fail
    refine ⟨by simp, .inl ⟨_, _, rfl, run_takeDeferred hd, ?_⟩⟩;exact ⟨_, results_tmp rfl _ _ _, rfl, hext.own (B := w.heap.size) (grownBy_putObj' _ _ _) (fun r e => by cases e; exact ⟨hDw, _, hd, rfl⟩) (Nat.le_refl _)⟩
end
end
section
open Go.RowKit
attribute [local go_sem ↓] Go.wp_at_zero Go.wp_at_succ
def uv (ns : List Nat) : List Value := ns.map fun (x : Nat) => Value.int .u64 (x : Int)
theorem uv_set (ns : List Nat) (i x : Nat) : (uv ns).set i (.int .u64 (x : Int)) = uv (ns.set i x) := by unfold uv; rw [List.map_set]
theorem uv_nwl (ns : List Nat) : NWL (uv ns) := by
 intro u hu k e;unfold uv at hu;obtain ⟨x, _, rfl⟩ := List.mem_map.1 hu
 cases e
def URow (w : World) (g : Nat) (ns : List Nat) : Prop := Box w g 103 (uv ns).toArray
section
variable {w w' : World} {g i x : Nat} {ns : List Nat}
theorem URow.ext (h : URow w g ns) (e : Ext w w') : URow w' g ns := Box.ext h e
theorem URow.cell (h : URow w g ns) (hi : i < ns.length) : w.cell? ⟨g, i, none⟩ = some (.int .u64 (ns[i] : Nat)) := Box.cell h i _ (by simp [uv, hi])
theorem URow.frozen (h : URow w g ns) (i : Nat) : w.frozen? ⟨g, i, none⟩ = false := Box.frozen h i
theorem URow.lt (h : URow w g ns) : g < w.heap.size := Box.lt h
theorem URow.put (h : URow w g ns) (i x : Nat) : URow (w.setCell ⟨g, i, none⟩ (.int .u64 (x : Int))) g (ns.set i x) /\ (∀ z L s A n c, NI w z L s A n c -> NI (w.setCell ⟨g, i, none⟩ (.int .u64 (x : Int))) z L s A n c) /\ (∀ W, Ext W w -> W.heap.size <= g -> Ext W (w.setCell ⟨g, i, none⟩ (.int .u64 (x : Int)))) /\ (∀ g' T cs, g' ≠ g -> Box w g' T cs -> Box (w.setCell ⟨g, i, none⟩ (.int .u64 (x : Int))) g' T cs) := by
 have F := (FinRow.refl (l := uv ns) h (uv_nwl ns)).step i (v := .int .u64 (x : Int)) (by intro k h; cases h);refine ⟨?_, F.ni, F.ext, F.far⟩;have := F.box;rw [uv_set] at this;exact this
end
theorem made_u64 (n : Nat) : madeCells #[Value.int .u64 0] (n * 1) = (uv (List.replicate n 0)).toArray := by
 refine Array.ext (by rw [size_madeCells]; simp [uv]) (fun i h1 h2 => ?_);simp [madeCells, uv, Nat.mod_one]
theorem Tryz.infoU64 : (Tryz.prog.info? 103).map (fun i => (i.zero, i.size, i.bytes)) = some (some (.int .u64 0), 1, 8) := by kernel_rfl
theorem mk_u64 (n : Nat) (hn : n <= 100000) (W : World) :
  (Instr.makeSlice 134 (.int .i64 (n : Int)) (.int .i64 (n : Int))).run Tryz.prog W = .ok (.slice (some ⟨W.heap.size, 0, none⟩) n n) (W.alloc (.cells (uv (List.replicate n 0)).toArray 103)) := by
 obtain ⟨i0, hi, hz0, hz1, hz2⟩ := info_parts Tryz.infoU64;have h := run_make_rowN (P := Tryz.prog) 134 103 i0 _ Tryz.underlying134 hi hz0 .i64 .i64 n n (Nat.le_refl _) (by rw [hz2]; omega) (by omega) W;rw [hz1] at h;rw [<- made_u64];exact h
def cutN (l : List Nat) : List Nat := (l.reverse.dropWhile (fun x => decide (x = 0))).reverse
theorem cutN_zero (l : List Nat) : cutN (l ++ [0]) = cutN l := by unfold cutN; rw [List.reverse_append]; simp
theorem cutN_snoc (l : List Nat) {x : Nat} (h : x ≠ 0) : cutN (l ++ [x]) = l ++ [x] := by unfold cutN; rw [List.reverse_append]; simp [h]
theorem natSnoc_ind {P : List Nat -> Prop} (h0 : P []) (h1 : ∀ l x, P l -> P (l ++ [x])) (l : List Nat) : P l := by
 have : ∀ m : List Nat, P m.reverse := by
  intro m
  induction m with
  | nil => exact h0
  | cons x m ih => rw [List.reverse_cons]; exact h1 _ _ ih
 have h := this l.reverse
 rwa [List.reverse_reverse] at h
theorem cutN_pre (l : List Nat) : ∃ k, l = cutN l ++ List.replicate k 0 := by
 induction l using natSnoc_ind with
 | h0 => exact ⟨0, rfl⟩
 | h1 l x ih =>
  by_cases h : x = 0
  ·subst h
   obtain ⟨k, hk⟩ := ih;refine ⟨k + 1, ?_⟩;rw [cutN_zero, List.replicate_succ', <- List.append_assoc, <- hk]
  ·exact ⟨0, by rw [cutN_snoc _ h]; simp⟩
theorem cutN_take (l : List Nat) : l.take (cutN l).length = cutN l := by
 obtain ⟨k, hk⟩ := cutN_pre l;exact (congrArg (List.take (cutN l).length) hk).trans (List.take_left ..)
theorem cutN_len (l : List Nat) : (cutN l).length <= l.length := by
 obtain ⟨k, hk⟩ := cutN_pre l;have := congrArg List.length hk;rw [List.length_append] at this;omega
theorem p_sign64 {x : Nat} {w : World} (hx : x < 9223372036854775808) : Calls Tryz.prog 188 #[.int .u64 (x : Int)] w fun e w' => e = .returned (.int .i64 ((min x 1 : Nat) : Int)) /\ w' = w := by
 obtain ⟨m, hm⟩ : ∃ m, min x 1 = m := ⟨_, rfl⟩;rw [hm];have h1 : min (x : Int) 1 = (m : Int) := by omega
 have hw : IntKind.i64.wrap (m : Int) = (m : Int) := IntWalk.i64_in _ (by omega);have HX := Lib.hid hx;clear hx hm
 go_enter Tryz.func188, Tryz.ntmps188
 go_wp2_with fail
 go_ret
 exact ⟨rfl, rfl⟩
set_option maxRecDepth 100000 in
theorem p_cut64 {g n N : Nat} {ns : List Nat} {w : World} (h : URow w g ns) (hn : n <= ns.length) (hN : n <= N) (hN2 : N <= 100000) (hb : ∀ x ∈ ns, x < 2147483648) : Calls Tryz.prog 187 #[.slice (some ⟨g, 0, none⟩) n N, .func (.func 188) #[] #[]] w fun e w' => e = .returned (.slice (some ⟨g, 0, none⟩) (cutN (ns.take n)).length N) /\ w' = w := by
 have HB := Lib.hid hb;clear hb
 go_enter Tryz.func187, Tryz.ntmps187
 go_wp2_with fail
 go_loopw [0] (fun v wr => ∃ k : Nat, k <= n /\ v = .slice (some ⟨g, 0, none⟩) k N /\ wr = w /\ cutN (ns.take k) = cutN (ns.take n)) (fun v _ => lenV v)
 case atStart => exact ⟨n, Nat.le_refl _, rfl, rfl, rfl⟩
 case round =>
  obtain ⟨k, hk, rfl, rfl, ht⟩ := hrel;have HT := Lib.hid ht;clear ht
  rcases Nat.eq_zero_or_pos k with h0 | h0
  ·subst h0
   go_wp2_with fail
   go_ret
   exact ⟨by have := HT.out; rw [<- this]; rfl, rfl⟩
  ·obtain ⟨j, rfl⟩ : ∃ j, k = j + 1 := ⟨k - 1, by omega⟩
   have hj : j < ns.length := by omega
   have hjc : (j : Int) <= (N : Int) := by omega
   have e0 := h.cell hj;have HX := Lib.hid (HB.out _ (List.getElem_mem hj));have HS := Lib.hid (show ns.take (j + 1) = ns.take j ++ [ns[j]] from List.take_succ_eq_append_getElem hj);generalize ns[j] = x at e0 HX HS
   by_cases hq : x = 0
   ·have HT2 := Lib.hid (show cutN (ns.take j) = cutN (ns.take n) by rw [<- HT.out, HS.out, hq, cutN_zero])
    subst hq
    go_wp2_with fail
    refine (p_sign64 (x := 0) (by omega)).mono ?_;rintro e V ⟨rfl, rfl⟩;rw [show ((min 0 1 : Nat) : Int) = 0 from rfl]
    go_wp2_with fail
    go_roundw
    case rel => exact ⟨j, by omega, by go_num, (by first | rfl | trivial), HT2.out⟩
    case measure => simp [lenV]
   ·have HT2 := Lib.hid (show (cutN (ns.take n)).length = j + 1 by rw [<- HT.out, HS.out, cutN_snoc _ hq, List.length_append, List.length_take]; simp; omega)
    have hmin : min x 1 = 1 := by omega
    go_wp2_with fail
    refine (p_sign64 (by have := HX.out; omega)).mono ?_;rintro e V ⟨rfl, rfl⟩;rw [hmin];clear hmin hq
    go_wp2_with fail
    go_ret
    exact ⟨by rw [HT2.out]; rfl, rfl⟩
theorem p_cutRes {g n N : Nat} {ns : List Nat} {w : World} (h : URow w g ns) (hn : n <= ns.length) (hN : n <= N) (hN2 : N <= 100000) (hb : ∀ x ∈ ns, x < 2147483648) : Calls Tryz.prog 172 #[.slice (some ⟨g, 0, none⟩) n N] w fun e w' => e = .returned (.slice (some ⟨g, 0, none⟩) (cutN (ns.take n)).length N) /\ w' = w := by
 have HB := Lib.hid hb;clear hb
 go_enter Tryz.func172, Tryz.ntmps172
 go_wp2_with fail
 refine (p_cut64 h hn hN hN2 HB.out).mono ?_;rintro e V ⟨rfl, rfl⟩
 go_wp2_with fail
 go_ret
 exact ⟨rfl, rfl⟩
theorem p_last64 {g j N : Nat} {ns : List Nat} {w : World} (h : URow w g ns) (hj : j < ns.length) (hN : j <= 100000) : Calls Tryz.prog 171 #[.slice (some ⟨g, 0, none⟩) (j + 1) N] w fun e w' => e = .returned (.int .u64 (ns[j] : Nat)) /\ w' = w := by
 have e0 := h.cell hj
 go_enter Tryz.func171, Tryz.ntmps171
 go_wp2_with fail
 go_ret
 exact ⟨rfl, rfl⟩
section
variable {w w' : World} {z y : Int} {zs : List Int} {L M : Nat} {s t : Bool} {A B : Option Addr} {n c m d : Nat}
def resL (zs : List Int) (p : Nat) : List Nat := zs.map fun z => (z % (p : Int)).toNat
theorem resL_lt {zs : List Int} {p : Nat} (hp : 0 < p) : ∀ x ∈ resL zs p, x < p := by
 intro x hx;obtain ⟨z, _, rfl⟩ := List.mem_map.1 hx;have h1 := Int.emod_lt_of_pos z (show (0 : Int) < (p : Int) by omega);have h2 := Int.emod_nonneg z (show (p : Int) ≠ 0 by omega);omega
theorem set_fillN {l : List Nat} {k n : Nat} (hk : k < l.length) (hn : l.length = n) : (l.take k ++ List.replicate (n - k) 0).set k l[k] = l.take (k + 1) ++ List.replicate (n - (k + 1)) 0 := by
 have e : n - k = (n - (k + 1)) + 1 := by omega
 rw [e, List.replicate_succ, List.set_append_right _ _ (by rw [List.length_take]; omega), List.length_take, Nat.min_eq_left (by omega), Nat.sub_self, List.set_cons_zero, List.take_succ_eq_append_getElem hk, List.append_assoc]
 rfl
def RetU (full : List Nat) (k : Nat) (w : World) (e : Ending) (w' : World) : Prop := ∃ g, w.heap.size <= g /\ e = .returned (.slice (some ⟨g, 0, none⟩) k full.length) /\ URow w' g full /\ Ext w w'
set_option maxRecDepth 100000 in
theorem p_residues {p : Nat} (h : IPol w A n c zs L) (hn : n <= 1000) (hp0 : 0 < p) (hp : p < 2147483648) (hL : L <= 10000) : Calls Tryz.prog 151 #[.slice A n c, .int .u64 (p : Int)] w (RetU (resL zs p) (cutN (resL zs p)).length w) := by
 have hmk := mk_u64 n (by omega);have Hlen := Lib.hid h.len;have HP := Lib.hid (show 0 < p /\ p < 2147483648 from ⟨hp0, hp⟩);have HRL := Lib.hid (show (resL zs p).length = n by unfold resL; rw [List.length_map]; exact h.len);clear hp0 hp
 go_enter Tryz.func151, Tryz.ntmps151
 go_wp2_with fail
 go_loopw [13] (fun i wr => ∃ k : Nat, k <= n /\ i = .int .i64 (k : Int) /\ Ext w wr /\ URow wr w.heap.size ((resL zs p).take k ++ List.replicate (n - k) 0)) (fun i _ => n - (intOf i).toNat)
 case atStart => exact ⟨0, Nat.zero_le _, rfl, (Ext.refl w).alloc _, by rw [List.take_zero, List.nil_append, Nat.sub_zero]; exact Box.new w _ _⟩
 case round =>
  obtain ⟨k, hk, rfl, ext, hR⟩ := hrel
  by_cases hlt : k < n
  ·have hj : k < zs.length := by rw [Hlen.out]; exact hlt
   have hI : (k : Int) < (n : Int) := by omega
   obtain ⟨b, off, rfl, hr⟩ := h.at_ (fun e => by rw [e] at hj; exact absurd hj (Nat.not_lt_zero _));obtain ⟨sx, Ax, nx, cx, e0, e1, hx⟩ := (hr.ext ext).at_ k hj;have e0' : wr.cell? ⟨b, off + k * 2, none⟩ = some (.bool sx) := by rw [Nat.mul_comm]; exact e0
   have e1' : wr.cell? ⟨b, off + k * 2 + 1, none⟩ = some (.slice Ax nx cx) := by rw [Nat.mul_comm]; exact e1
   clear e0 e1;have hjn : k < (resL zs p).length := by rw [HRL.out]; exact hlt
   have HS := Lib.hid (set_fillN hjn HRL.out);have HV := Lib.hid (show (zs[k] % (p : Int)).toNat = (resL zs p)[k] by simp [resL]);have hkl : k < ((resL zs p).take k ++ List.replicate (n - k) 0).length := by rw [List.length_append, List.length_take, List.length_replicate, HRL.out]; omega
   generalize hzk : zs[k] = zk at hx HV
   go_upto_region 5 with (fail)
   obtain ⟨W2, hW2, ext2, b9, hz2⟩ := box1 wr 25 #[.bool sx, .slice Ax nx cx];rw [<- hW2];clear hW2 hz2 e0' e1';replace hx := hx.ext ext2;replace hR := hR.ext ext2;replace ext := ext.trans ext2;clear ext2;have x0 := b9.cell 0 _ rfl;have x1 := b9.cell 1 _ rfl
   go_wp2_with fail
   refine (p_residue hx HP.out.1 HP.out.2 (by omega)).mono ?_;rintro e V ⟨rfl, hxt⟩;clear x0 x1;rw [HV.out];replace hR := hR.ext hxt;have q0 := hR.cell hkl;have f0 := hR.frozen k
   go_wp2_with fail
   have PP := hR.put k ((resL zs p)[k]);rw [HS.out] at PP
   go_roundw
   case rel => exact ⟨k + 1, by omega, by go_num, PP.2.2.1 _ (ext.trans hxt) (Nat.le_refl _), PP.1⟩
   case measure => simp [intOf]; omega
  ·have hkn : k = n := by omega
   subst hkn;rw [List.take_of_length_le (Nat.le_of_eq HRL.out), Nat.sub_self, List.replicate_zero, List.append_nil] at hR;have hI : (k : Int) <= (k : Int) := Int.le_refl _
   go_wp2_with fail
   refine (p_cutRes hR (Nat.le_of_eq HRL.out.symm) (Nat.le_refl _) (by omega) (fun x hx => Nat.lt_trans (resL_lt HP.out.1 x hx) HP.out.2)).mono ?_;rintro e V ⟨rfl, rfl⟩;rw [List.take_of_length_le (Nat.le_of_eq HRL.out)]
   go_wp2_with fail
   go_ret
   exact ⟨w.heap.size, Nat.le_refl _, by rw [HRL.out]; rfl, hR, ext⟩
end
def mulN (l : List Nat) (f p : Nat) : List Nat := l.map fun x => x * f % p
theorem mulN_lt {l : List Nat} {f p : Nat} (hp : 0 < p) : ∀ x ∈ mulN l f p, x < p := by
 intro x hx;obtain ⟨y, _, rfl⟩ := List.mem_map.1 hx;exact Nat.mod_lt _ hp
def midN (us bs : List Nat) (m p d k : Nat) : List Nat := (List.range us.length).map fun j => if d <= j /\ j < d + k then (us.getD j 0 + bs.getD (j - d) 0 * m) % p else us.getD j 0
theorem midN_len (us bs : List Nat) (m p d k : Nat) : (midN us bs m p d k).length = us.length := by unfold midN; simp
theorem midN_at (us bs : List Nat) (m p d k j : Nat) (h : j < (midN us bs m p d k).length) : (midN us bs m p d k)[j] = if d <= j /\ j < d + k then (us.getD j 0 + bs.getD (j - d) 0 * m) % p else us.getD j 0 := by simp [midN]
theorem midN_zero (us bs : List Nat) (m p d : Nat) : midN us bs m p d 0 = us := by
 refine List.ext_getElem (midN_len ..) (fun j h1 h2 => ?_);rw [midN_at, if_neg (by omega)];simp [h2]
theorem midN_step (us bs : List Nat) (m p d k : Nat) (h : d + k < (midN us bs m p d k).length) : (midN us bs m p d k).set (d + k) (((midN us bs m p d k)[d + k] + bs.getD k 0 * m) % p) = midN us bs m p d (k + 1) := by
 refine List.ext_getElem (by rw [List.length_set, midN_len, midN_len]) (fun j h1 h2 => ?_);rw [List.getElem_set]
 by_cases e : d + k = j
 ·subst e
  rw [if_pos rfl, midN_at, midN_at, if_neg (by omega), if_pos (by omega), show d + k - d = k by omega]
 ·rw [if_neg e, midN_at, midN_at]
  by_cases h3 : d <= j /\ j < d + k
  ·rw [if_pos h3, if_pos (by omega)]
  ·rw [if_neg h3, if_neg (by omega)]
theorem midN_lt {us bs : List Nat} {m p d k : Nat} (hp : 0 < p) (ha : ∀ x ∈ us, x < p) : ∀ x ∈ midN us bs m p d k, x < p := by
 intro x hx;obtain ⟨j, hj, rfl⟩ := List.mem_map.1 hx
 split
 ·exact Nat.mod_lt _ hp
 ·have hj2 : j < us.length := List.mem_range.1 hj
  have : us.getD j 0 = us[j] := by simp [hj2]
  rw [this];exact ha _ (List.getElem_mem hj2)
def remS (us bs : List Nat) (fac p : Nat) : List Nat := cutN (midN us bs ((p - us.getLastD 0) * fac % p) p (us.length - bs.length) bs.length)
def remF : Nat -> List Nat -> List Nat -> Nat -> Nat -> List Nat
 | 0, us, _, _, _ => us
 | f + 1, us, bs, fac, p => if bs.length <= us.length then remF f (remS us bs fac p) bs fac p else us
def remOK : Nat -> List Nat -> List Nat -> Nat -> Nat -> Bool
 | 0, us, bs, _, _ => decide (us.length < bs.length)
 | f + 1, us, bs, fac, p => if bs.length <= us.length then decide ((remS us bs fac p).length < us.length) && remOK f (remS us bs fac p) bs fac p else true
def facN (bs : List Nat) (p : Nat) : Nat := powM (bs.getLastD 0) (p - 2) p
def comF : Nat -> List Nat -> List Nat -> Nat -> List Nat
 | 0, us, _, _ => us
 | f + 1, us, bs, p => if bs = [] then us else comF f bs (remF 8 us bs (facN bs p) p) p
def comOK : Nat -> List Nat -> List Nat -> Nat -> Bool
 | 0, _, bs, _ => decide (bs = [])
 | f + 1, us, bs, p => if bs = [] then true else remOK 8 us bs (facN bs p) p && comOK f bs (remF 8 us bs (facN bs p) p) p
theorem midN_takes {us bs : List Nat} {m p d j k : Nat} (h1 : d + j <= k) (h2 : k <= us.length) : (midN us bs m p d j).take k = midN (us.take k) bs m p d j := by
 refine List.ext_getElem (by rw [List.length_take, midN_len, midN_len, List.length_take]) (fun i h3 h4 => ?_);have hk : i < k := by rw [List.length_take] at h3; omega
 have e : (us.take k).getD i 0 = us.getD i 0 := by
  rw [List.getD_eq_getElem?_getD, List.getD_eq_getElem?_getD, List.getElem?_take_of_lt hk]
 rw [List.getElem_take, midN_at, midN_at, e]
theorem getLastD_take {l : List Nat} {k : Nat} (hk : k < l.length) : (l.take (k + 1)).getLastD 0 = l[k] := by
 rw [List.getLastD_eq_getLast?, List.getLast?_eq_getElem?, List.length_take, Nat.min_eq_left (by omega), show k + 1 - 1 = k by omega, List.getElem?_take_of_lt (by omega), List.getElem?_eq_getElem hk]
 rfl
theorem wrap_mul31 {a b : Nat} (ha : a < 4294967296) (hb : b < 4294967296) {u : Nat} (hu : a * b = u) : IntKind.u64.wrap ((a : Int) * (b : Int)) = (u : Int) := by rw [wrap_mul ha hb, hu]
section
variable {w w' : World} {g n N p fac : Nat} {ns us : List Nat}
set_option maxRecDepth 100000 in
theorem p_multiply {f : Nat} (h : URow w g ns) (hn : n <= ns.length) (hn2 : n <= 1000) (hp0 : 0 < p) (hp : p < 2147483648) (hf : f < 4294967296) (hb : ∀ x ∈ ns, x < 2147483648) : Calls Tryz.prog 153 #[.slice (some ⟨g, 0, none⟩) n N, .int .u64 (f : Int), .int .u64 (p : Int)] w (RetU (mulN (ns.take n) f p) n w) := by
 have hmk := mk_u64 n (by omega);have HP := Lib.hid (show 0 < p /\ p < 2147483648 /\ f < 4294967296 from ⟨hp0, hp, hf⟩);have HB := Lib.hid hb;have hpn : p ≠ 0 := by omega
 have HRL := Lib.hid (show (mulN (ns.take n) f p).length = n by unfold mulN; rw [List.length_map, List.length_take]; omega);clear hp0 hp hf hb
 go_enter Tryz.func153, Tryz.ntmps153
 go_wp2_with fail
 go_loopw [15] (fun i wr => ∃ k : Nat, k <= n /\ i = .int .i64 (k : Int) /\ Ext w wr /\ URow wr w.heap.size ((mulN (ns.take n) f p).take k ++ List.replicate (n - k) 0)) (fun i _ => n - (intOf i).toNat)
 case atStart => exact ⟨0, Nat.zero_le _, rfl, (Ext.refl w).alloc _, by rw [List.take_zero, List.nil_append, Nat.sub_zero]; exact Box.new w _ _⟩
 case round =>
  obtain ⟨k, hk, rfl, ext, hR⟩ := hrel
  by_cases hlt : k < n
  ·have hj : k < ns.length := by omega
   have hI : (k : Int) < (n : Int) := by omega
   have e0 := (h.ext ext).cell hj;have hjn : k < (mulN (ns.take n) f p).length := by rw [HRL.out]; exact hlt
   have HS := Lib.hid (set_fillN hjn HRL.out);have HV := Lib.hid (show ns[k] * f % p = (mulN (ns.take n) f p)[k] by simp [mulN]);have hkl : k < ((mulN (ns.take n) f p).take k ++ List.replicate (n - k) 0).length := by rw [List.length_append, List.length_take, List.length_replicate, HRL.out]; omega
   have HX := Lib.hid (HB.out _ (List.getElem_mem hj));generalize ns[k] = x at e0 HV HX;obtain ⟨u, hu⟩ : ∃ u, x * f = u := ⟨_, rfl⟩;have hwu := wrap_mul31 (by have := HX.out; omega) HP.out.2.2 hu;obtain ⟨um, hum⟩ : ∃ um, u % p = um := ⟨_, rfl⟩;have htu : (u : Int).tmod (p : Int) = (um : Int) := by rw [<- hum]; rfl
   have hul : um < p := by rw [<- hum]; exact Nat.mod_lt _ HP.out.1
   have huw : IntKind.u64.wrap (um : Int) = (um : Int) := wrap_u64_nat (by have := HP.out; omega);rw [<- HV.out, hu, hum] at HS;clear hu hum hul HV hjn;have q0 := hR.cell hkl;have f0 := hR.frozen k;have hR' := hR
   go_wp2_with fail
   have PP := hR.put k um;rw [HS.out] at PP
   go_roundw
   case rel => exact ⟨k + 1, by omega, by go_num, PP.2.2.1 _ ext (Nat.le_refl _), PP.1⟩
   case measure => simp [intOf]; omega
  ·have hkn : k = n := by omega
   subst hkn;rw [List.take_of_length_le (Nat.le_of_eq HRL.out), Nat.sub_self, List.replicate_zero, List.append_nil] at hR;have hI : (k : Int) <= (k : Int) := Int.le_refl _
   go_wp2_with fail
   go_ret
   exact ⟨w.heap.size, Nat.le_refl _, by rw [HRL.out]; rfl, hR, ext⟩
set_option maxRecDepth 100000 in
theorem p_remainder {w0 : World} {ga gb na nb Na Nb p : Nat} {la lb bs R : List Nat} (ha : URow w ga la) (hb : URow w gb lb) (hne : ga ≠ gb) (hna : na <= la.length) (hnb : nb <= lb.length) (hnb0 : 0 < nb) (hla : la.length <= Na) (hNa : Na <= 1000) (hNb : nb <= 1000) (hp0 : 2 <= p) (hp : p < 2147483648) (hap : ∀ x ∈ la, x < p) (hbp : ∀ x ∈ lb, x < p)
  (hbs : lb.take nb = bs) (hOK : remOK 8 (la.take na) bs (facN bs p) p = true) (hR : remF 8 (la.take na) bs (facN bs p) p = R) (he : Ext w0 w) (hga : w0.heap.size <= ga) (hgb : w0.heap.size <= gb) :
  Calls Tryz.prog 169 #[.slice (some ⟨ga, 0, none⟩) na Na, .slice (some ⟨gb, 0, none⟩) nb Nb, .int .u64 (p : Int)] w fun e w' => ∃ la', e = .returned (.slice (some ⟨ga, 0, none⟩) R.length Na) /\ URow w' ga la' /\ la'.length = la.length /\ la'.take R.length = R /\ (∀ x ∈ la', x < p) /\ URow w' gb lb /\ Ext w0 w' := by
 have HP := Lib.hid (show 2 <= p /\ p < 2147483648 from ⟨hp0, hp⟩);have hpn : p ≠ 0 := by omega
 obtain ⟨j, rfl⟩ : ∃ j, nb = j + 1 := ⟨nb - 1, by omega⟩;have hjb : j < lb.length := by omega
 have HLB := Lib.hid (show bs.getLastD 0 = lb[j] by rw [<- hbs]; exact getLastD_take hjb);have hbl : bs.length = j + 1 := by rw [<- hbs, List.length_take]; omega
 obtain ⟨fac, hfac⟩ : ∃ fac, facN bs p = fac := ⟨_, rfl⟩;have hfl : fac < 4294967296 := by rw [<- hfac]; exact powM_lt (by omega) (by omega)
 have HF := Lib.hid (show powM lb[j] (p - 2) p = fac by rw [<- hfac]; unfold facN; rw [HLB.out]);rw [hfac] at hOK hR;have HAP := Lib.hid hap;have HBP := Lib.hid hbp;have HBS := Lib.hid hbs;have HOK := Lib.hid hOK;have HR := Lib.hid hR;have HFL := Lib.hid hfl;have HBL := Lib.hid hbl;have HLJ := Lib.hid (show lb[j] < 4294967296 from Nat.lt_trans (hbp _ (List.getElem_mem hjb)) (by omega));clear hp0 hp hap hbp hbs hOK hR hfac hfl hbl
 go_enter Tryz.func169, Tryz.ntmps169
 go_wp2_with fail
 refine (p_last64 hb hjb (by omega)).mono ?_;rintro e V ⟨rfl, rfl⟩
 go_wp2_with fail
 refine (p_inverse HLJ.out HP.out.1 (by have := HP.out.2; omega)).mono ?_;rintro e V2 ⟨rfl, rfl⟩;rw [HF.out]
 go_wp2_with fail
 go_loopw [0] (fun v wr => ∃ (f k : Nat) (la' : List Nat), v = .slice (some ⟨ga, 0, none⟩) k Na /\ (remF f (la'.take k) bs fac p = R /\ remOK f (la'.take k) bs fac p = true /\ ∀ x ∈ la', x < p) /\ k <= la'.length /\ la'.length = la.length /\ URow wr ga la' /\ URow wr gb lb /\ Ext w0 wr) (fun v _ => lenV v)
 case atStart => exact ⟨8, na, la, rfl, ⟨HR.out, HOK.out, HAP.out⟩, hna, rfl, ha, hb, he⟩
 case round =>
  clear ha hb he;obtain ⟨f, k, la', rfl, hF, hkl, hll, ha, hb, he⟩ := hrel;have HFF := Lib.hid hF;clear hF
  by_cases hlt : j + 1 <= k
  ·have hI : ((j : Int) + 1) <= (k : Int) := by omega
   obtain ⟨i, rfl⟩ : ∃ i, k = i + 1 := ⟨k - 1, by omega⟩
   obtain ⟨f, rfl⟩ : ∃ g, f = g + 1 := by
    cases f with
    | zero =>
     have h1 := HFF.out.2.1;unfold remOK at h1;rw [decide_eq_true_eq, List.length_take, HBL.out] at h1;omega
    | succ g => exact ⟨g, rfl⟩
   have hil : i < la'.length := by omega
   have HLA := Lib.hid (show (la'.take (i + 1)).getLastD 0 = la'[i] from getLastD_take hil);have HXI := Lib.hid (HFF.out.2.2 _ (List.getElem_mem hil));have hlen : (la'.take (i + 1)).length = i + 1 := by rw [List.length_take]; omega
   have HST := Lib.hid (show remF f (remS (la'.take (i + 1)) bs fac p) bs fac p = R /\ (remS (la'.take (i + 1)) bs fac p).length < i + 1 /\ remOK f (remS (la'.take (i + 1)) bs fac p) bs fac p = true by
    have h1 := HFF.out.1;have h2 := HFF.out.2.1;unfold remF at h1;unfold remOK at h2;rw [if_pos (by rw [hlen, HBL.out]; omega)] at h1 h2;rw [Bool.and_eq_true, decide_eq_true_eq, hlen] at h2;exact ⟨h1, h2.1, h2.2⟩)
   have HALL := Lib.hid HFF.out.2.2;clear HFF
   go_wp2_with fail
   refine (p_last64 ha hil (by omega)).mono ?_;rintro e V3 ⟨rfl, rfl⟩;generalize hxi : la'[i] = xi at *;obtain ⟨c1, hc1⟩ : ∃ c1, p - xi = c1 := ⟨_, rfl⟩;have hcI : (p : Int) - (xi : Int) = (c1 : Int) := by have := HXI.out; omega
   have hcw : IntKind.u64.wrap (c1 : Int) = (c1 : Int) := wrap_u64_nat (by have := HP.out; omega);obtain ⟨u, hu⟩ : ∃ u, c1 * fac = u := ⟨_, rfl⟩;have hwu := wrap_mul31 (by have := HP.out; omega) HFL.out hu;obtain ⟨m, hm⟩ : ∃ m, u % p = m := ⟨_, rfl⟩;have htu : (u : Int).tmod (p : Int) = (m : Int) := by rw [<- hm]; rfl
   have hmp : m < p := by rw [<- hm]; exact Nat.mod_lt _ (by have := HP.out; omega)
   have hmw : IntKind.u64.wrap (m : Int) = (m : Int) := wrap_u64_nat (by have := HP.out; omega);obtain ⟨d, hd⟩ : ∃ d, i - j = d := ⟨_, rfl⟩;have hdI : (i : Int) + 1 - ((j : Int) + 1) = (d : Int) := by omega
   have hdI2 : (i : Int) - (j : Int) = (d : Int) := by omega
   have hdw : IntKind.i64.wrap (d : Int) = (d : Int) := IntWalk.i64_in _ (by omega);have hd1 : (d : Int) <= (i : Int) + 1 := by omega
   have hd2 : (d : Int) <= (Na : Int) := by omega
   have hd3 : d ≠ Na := by omega
   have HM := Lib.hid (show (p - (la'.take (i + 1)).getLastD 0) * fac % p = m by rw [HLA.out, hc1, hu, hm]);have HMP := Lib.hid hmp;have HD := Lib.hid hd;clear hc1 hu hm hmp hxi hd
   go_wp2_with fail
   have hdj : i + 1 - d = j + 1 := by have := HD.out; omega
   have HDJ := Lib.hid hdj;have HMLT := Lib.hid (fun q => midN_lt (bs := bs) (m := m) (d := d) (k := q) (show 0 < p by have := HP.out; omega) HALL.out);have HMLN := Lib.hid (fun q => (midN_len la' bs m p d q));have hm0 := midN_zero la' bs m p d;rw [<- hm0] at ha;clear hm0 hdj
   go_loopw [38] (fun v wr => ∃ q : Nat, q <= j + 1 /\ v = .int .i64 (q : Int) /\ URow wr ga (midN la' bs m p d q) /\ URow wr gb lb /\ Ext w0 wr) (fun v _ => j + 1 - (intOf v).toNat)
   case atStart => exact ⟨0, Nat.zero_le _, rfl, ha, hb, he⟩
   case round =>
    clear ha hb he;obtain ⟨q, hq, rfl, ha, hb, he⟩ := hrel
    by_cases hlt2 : q < j + 1
    ·have hqI : (q : Int) < (j : Int) + 1 := by omega
     have hqb : q < lb.length := by omega
     have hqd : (q : Int) < ((i + 1 - d : Nat) : Int) := by have := HDJ.out; omega
     have hdq : d + q < (midN la' bs m p d q).length := by rw [HMLN.out]; have := HD.out; omega
     have e0 := hb.cell hqb;have e1 := ha.cell hdq;have f1 := ha.frozen (d + q);have HXA := Lib.hid (HMLT.out q _ (List.getElem_mem hdq));have HXB := Lib.hid (HBP.out _ (List.getElem_mem hqb))
     have HBQ := Lib.hid (show bs.getD q 0 = lb[q] by
      rw [<- HBS.out, List.getD_eq_getElem?_getD, List.getElem?_take_of_lt hlt2, List.getElem?_eq_getElem hqb]; rfl)
     have HSTP := Lib.hid (midN_step la' bs m p d q hdq);generalize (midN la' bs m p d q)[d + q] = x at e1 HXA HSTP;generalize lb[q] = y at e0 HXB HBQ;obtain ⟨u2, hu2⟩ : ∃ u, y * m = u := ⟨_, rfl⟩;have hwu2 := wrap_mul31 (by have := HXB.out; have := HP.out; omega) (by have := HMP.out; have := HP.out; omega) hu2;obtain ⟨s2, hs2⟩ : ∃ s, x + u2 = s := ⟨_, rfl⟩;have hsI : (x : Int) + (u2 : Int) = (s2 : Int) := by omega
     have hu2b : u2 <= 2147483647 * 2147483647 := by rw [<- hu2]; exact Nat.mul_le_mul (by have := HXB.out; have := HP.out; omega) (by have := HMP.out; have := HP.out; omega)
     have hsw : IntKind.u64.wrap (s2 : Int) = (s2 : Int) := wrap_u64_nat (by have := HXA.out; have := HP.out; omega);obtain ⟨sm, hsm⟩ : ∃ sm, s2 % p = sm := ⟨_, rfl⟩;have hts : (s2 : Int).tmod (p : Int) = (sm : Int) := by rw [<- hsm]; rfl
     have hsl : sm < p := by rw [<- hsm]; exact Nat.mod_lt _ (by have := HP.out; omega)
     have hsmw : IntKind.u64.wrap (sm : Int) = (sm : Int) := wrap_u64_nat (by have := HP.out; omega);have HST2 := Lib.hid (show (midN la' bs m p d q).set (d + q) sm = midN la' bs m p d (q + 1) by rw [<- HSTP.out, HBQ.out, hu2, hs2, hsm]);clear hu2 hs2 hu2b hsm hsl HSTP HBQ
     go_wp2_with fail
     have PP := ha.put (d + q) sm;rw [HST2.out] at PP
     go_roundw
     case rel => exact ⟨q + 1, by omega, by go_num, PP.1, PP.2.2.2 _ _ _ (Ne.symm hne) hb, PP.2.2.1 _ he hga⟩
     case measure => simp [intOf]; omega
    ·have hqj : q = j + 1 := by omega
     have HQJ := Lib.hid hqj;have hqI : (j : Int) + 1 <= (q : Int) := by omega
     rw [hqj] at ha;clear hqj
     have HRS := Lib.hid (show cutN ((midN la' bs m p d (j + 1)).take (i + 1)) = remS (la'.take (i + 1)) bs fac p by
      unfold remS;rw [midN_takes (by have := HD.out; omega) (by omega), HM.out, HBL.out, hlen]
      congr 2
      have := HD.out;omega)
     have hml : i + 1 <= (midN la' bs m p d (j + 1)).length := by rw [HMLN.out]; omega
     go_wp2_with fail
     refine (p_cutRes ha hml (by omega) (by omega) (fun x hx => Nat.lt_trans (HMLT.out _ x hx) HP.out.2)).mono ?_;rintro e V4 ⟨rfl, rfl⟩;have hct := cutN_take ((midN la' bs m p d (j + 1)).take (i + 1));rw [HRS.out] at hct ⊢;have hle : (remS (la'.take (i + 1)) bs fac p).length <= i + 1 := Nat.le_of_lt HST.out.2.1;rw [List.take_take, Nat.min_eq_left hle] at hct;have HCT := Lib.hid hct;clear hct
     go_wp2_with fail
     go_roundw
     case rel => exact ⟨f, (remS (la'.take (i + 1)) bs fac p).length, midN la' bs m p d (j + 1), by go_num, ⟨by rw [HCT.out]; exact HST.out.1, by rw [HCT.out]; exact HST.out.2.2, HMLT.out _⟩, by omega, by rw [HMLN.out]; exact hll, ha, hb, he⟩
     case measure => simp [lenV]; exact HST.out.2.1
  ·have hI : (k : Int) < ((j : Int) + 1) := by omega
   have hres : la'.take k = R := by
    have h1 := HFF.out.1
    cases f with
    | zero => exact h1
    | succ g => unfold remF at h1; rw [if_neg (by rw [List.length_take, HBL.out]; omega)] at h1; exact h1
   have hRl : R.length = k := by rw [<- hres, List.length_take]; omega
   have HRS := Lib.hid hres;have HRL := Lib.hid hRl;clear hres hRl
   go_wp2_with fail
   go_ret
   exact ⟨la', by rw [HRL.out]; rfl, ha, hll, by rw [HRL.out, HRS.out], HFF.out.2.2, hb, he⟩
end
end
end Go.Proofs.YtpeddoaknfjbbaaGreatDoor
