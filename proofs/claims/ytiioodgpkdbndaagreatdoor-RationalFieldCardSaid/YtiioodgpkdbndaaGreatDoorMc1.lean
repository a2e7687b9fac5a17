/- For every three numbers the law RationalField returns true: the numbers are a field, the arguments keep their values, and the examples of the chapter hold. Condition: the five listed tables of Go's library hold what their initialisers lay (tied by the given card). -/
import Derived.Test.YtiioodgpkdbndaaGreatDoorM0
import Derived.Test.YtiioodgpkdbndaaGreatDoorM1
import Derived.Test.YtiioodgpkdbndaaGreatDoorM2
import Derived.Test.YtiioodgpkdbndaaGreatDoorM3
import Derived.Test.YtiioodgpkdbndaaGreatDoorM4
import Derived.Test.YtiioodgpkdbndaaGreatDoorM5
import Derived.Test.YtiioodgpkdbndaaGreatDoorM6
import Derived.Test.YtiioodgpkdbndaaGreatDoorM7
import Derived.Test.YtiioodgpkdbndaaGreatDoorM8
import Derived.Test.YtiioodgpkdbndaaGreatDoorM9
import Derived.Test.YtiioodgpkdbndaaGreatDoorMc0
namespace Go.Proofs.YtiioodgpkdbndaaGreatDoor
open Go.ChangeShapes Go.WideShapes Go.ChangeAt Go.RowKit Go.Joins
set_option maxRecDepth 100000
theorem field_laid : Rows.rationalFieldRow.laid = laidR := by kernel_rfl
theorem field_lifted (os : Os) (started : os.Started) (H : Type) (enc : TypeId × Value → H) :
    ReturnsInHanded {} Tryz.checked os 7 .any (fun w args => (Rows.rationalFieldSpec.pre enc Tryz.prog Tryz.f7 [] false w args ∧ laidMetH Tryz.prog Rows.rationalFieldRow.laid w) ∧ sizedMet enc Tryz.prog Tryz.f7 (OpenSpec.ofChange Rows.rationalFieldSpec) false w args)
      (Rows.rationalFieldSpec.post enc Tryz.prog Tryz.f7 false true false false) := by
  refine returnsInHanded_of_change_and (C := Tryz.checked) (X := fun w _ => laidMetH Tryz.prog Rows.rationalFieldRow.laid w) (fun _ _ _ hh h => h.of_heap hh) Tryz.own started (by kernel_rfl) Tryz.func7
    (ChangeSpec.witness_shaped (enc := enc) (C := Tryz.checked) (os := os) (X := fun w _ => laidMetH Tryz.prog Rows.rationalFieldRow.laid w) false (World.laidAll Tryz.prog os Rows.rationalFieldRow.laid) #[Value.agg #[.bool false, .slice none 0 0, .bool false, .slice none 0 0], Value.agg #[.bool false, .slice none 0 0, .bool false, .slice none 0 0], Value.agg #[.bool false, .slice none 0 0, .bool false, .slice none 0 0]] 8 (World.laidAll_os _ _ _)
      (World.shaped_of_ZipB (by kernel_rfl) (by kernel_rfl)) (by kernel_rfl) (by kernel_rfl) (by kernel_rfl)
      (by rw [MakeChecks.laidMetH_plain _ _ _ (by kernel_rfl)]; exact laidMet_laidAll _ (by kernel_rfl) (by kernel_rfl))) ?_
  intro W base args ds gs before hval0 hW _ _ hL _
  have hval : ∀ (j : Nat) t v, Tryz.f7.params[j]? = some t → args[j]? = some v → Value.okWide Tryz.prog W .any base t v := hval0
  have hW' := hW
  have hlt : ∀ p ∈ before, p.block < W.heap.size := fun p hp => hW.lt p hp
  obtain ⟨p, q, hA0, hV, rfl, _, _⟩ := hW
  have hA : DataW.TrodAll enc Tryz.prog W 0 (fun _ => true) true Tryz.f7.params.toList args.toList ds p := hA0
  rw [Tryz.params7] at hA hval
  obtain ⟨v0, v1, v2, d0, d1, d2, p0, p1, p2, rfl, rfl, rfl, h0, h1, h2⟩ := trodAll_three hA
  obtain ⟨rfl, rfl⟩ := trodVars_none hV
  simp only [List.append_nil] at hW' hlt
  obtain ⟨s, A, n, c, t, B, m, d, xs, ys, rfl, hr0, hk0⟩ := open_rat (hval 0 27 v0 rfl rfl) h0
  obtain ⟨s', A', n', c', t', B', m', d', xs', ys', rfl, hr1, hk1⟩ := open_rat (hval 1 27 v1 rfl rfl) h1
  obtain ⟨u, C, l, e0, u', D, l', e', zs, zs', rfl, hr2, hk2⟩ := open_rat (hval 2 27 v2 rfl rfl) h2
  clear hA0 hval0
  rw [field_laid] at hL
  obtain ⟨hT, hP⟩ := tabs_of_laid hL
  refine (field_any awake2 hT hP ⟨hr0, hk0⟩ ⟨hr1, hk1⟩ ⟨hr2, hk2⟩).mono fun e W' ⟨he, hext⟩ => ?_
  subst he
  have hb : Below W.heap.size W W' := hext
  have g0 := Below.trod Tryz.laidOut (by kernel_rfl) (of_decide_eq_true (by kernel_rfl)) h0 hb (fun p hp => hlt p (List.mem_append.2 (.inl (List.mem_append.2 (.inl hp)))))
  have g1 := Below.trod Tryz.laidOut (by kernel_rfl) (of_decide_eq_true (by kernel_rfl)) h1 hb (fun p hp => hlt p (List.mem_append.2 (.inl (List.mem_append.2 (.inr hp)))))
  have g2 := Below.trod Tryz.laidOut (by kernel_rfl) (of_decide_eq_true (by kernel_rfl)) h2 hb (fun p hp => hlt p (List.mem_append.2 (.inr hp)))
  exact ⟨_, rfl, _, _, _, [], (p0 ++ (p1 ++ p2)), [], hW', trodAll_mk1 (shut_bool Tryz.underlying4 true), trodAll_mk3 g0 g1 g2, rfl, Below.frame hb _, fun h => by cases h⟩
theorem field_row_holds : Rows.RationalFieldSaid :=
  OpenClaim.holds_of_wide 7 Tryz.f7 rfl rfl rfl rfl rfl rfl rfl ⟨rfl, rfl, rfl, rfl, rfl⟩ rfl rfl rfl rfl rfl (by kernel_rfl) Tryz.func7 (by kernel_rfl)
    (of_decide_eq_true (by kernel_rfl)) (by unfold Func.isWrapper; first | (rw [if_neg (of_decide_eq_false (by kernel_rfl))]; exact ⟨rfl, rfl⟩) | (rw [if_pos (by decide +kernel)]; kernel_rfl))
    (fun os started H enc _ => field_lifted os started H enc)
theorem field_holds : Rows.RationalFieldCardSaid :=
  Claim7.holds_tied_plain_at .later [] [.data, .data, .data, .data, .pinned] true Rows.rationalFieldCard.stood.harness false
    field_row_holds (fun _ h => by cases h) (by kernel_rfl) (fun _ h => by cases h) rationalField_row_tie rfl ⟨rfl, rfl⟩ (by kernel_rfl) rfl
    (fun f fn hf hfn => by
      obtain rfl : f = 7 := Option.some.inj ((show Tryz.prog.funcNamed "setsquare/setsquarelaw02.RationalField" = some 7 by kernel_rfl).symm.trans hf) |>.symm
      obtain rfl : fn = Tryz.f7 := (Option.some.inj (Tryz.func7.symm.trans hfn)).symm
      exact ⟨by kernel_rfl, fun j t ht => by
        rw [Tryz.params7] at ht
        have hm : t ∈ [27, 27, 27] := by simpa using Array.mem_of_getElem? ht
        have hall : ([27, 27, 27].all fun u => !Tryz.prog.wantsStandIn u) = true := by kernel_rfl
        exact (show Tryz.prog.wantsStandIn t = false by simpa using List.all_eq_true.1 hall t hm)⟩)
    (by kernel_rfl)
end Go.Proofs.YtiioodgpkdbndaaGreatDoor
