/- The law IntegerSums: for every input it returns true and leaves its arguments as they were, if the walk of the examples of the document is given. -/
import Derived.Test.YtmjmcinnbmjpdaaWn
import Derived.Test.YtmjmcinnbmjpdaaRow
namespace Go.Proofs.Ytmjmcinnbmjpdaa
open Go.ChangeShapes Go.WideShapes Go.ChangeAt Go.RowKit Go.Joins
set_option maxRecDepth 100000 in
theorem sums_lifted (hAw : Awake) (os : Os) (started : os.Started) (H : Type) (enc : TypeId × Value → H) :
    ReturnsInHanded {} Try.checked os 4 .any (Rows.integerSumsSpec.pre6 enc Try.prog Try.f4 Rows.integerSumsRow.domain false) (Rows.integerSumsSpec.post enc Try.prog Try.f4 false true false false) := by
  refine returnsInHanded_of_change (C := Try.checked) Try.own started (by kernel_rfl) Try.func4
    (ChangeSpec.witness6 (enc := enc) (C := Try.checked) false ⟨#[], #[.agg #[.bool false, .slice none 0 0], .agg #[.bool false, .slice none 0 0]], []⟩ 8 (by kernel_rfl) (by kernel_rfl) (by kernel_rfl) (by kernel_rfl)) ?_
  intro W base args ds gs before hval0 hW _ _
  have hval : ∀ (j : Nat) t v, Try.f4.params[j]? = some t → args[j]? = some v → Value.okWide Try.prog W .any base t v := hval0
  have hW' := hW
  have hlt : ∀ p ∈ before, p.block < W.heap.size := fun p hp => hW.lt p hp
  obtain ⟨p, q, hA0, hV, rfl, _, _⟩ := hW
  have hA : DataW.TrodAll enc Try.prog W 0 (fun _ => true) true Try.f4.params.toList args.toList ds p := hA0
  rw [Try.params4] at hA hval
  obtain ⟨v0, v1, d0, d1, p0, p1, rfl, rfl, rfl, h0, h1⟩ := trodAll_two hA
  obtain ⟨rfl, rfl⟩ := trodVars_none hV
  simp only [List.append_nil] at hW' hlt
  obtain ⟨s, A, n, c, xs, rfl, hl0, hr0, hc0, hm0⟩ := open_api (hval 0 24 v0 rfl rfl) h0
  obtain ⟨t, B, m, d, ys, rfl, hl1, hr1, hc1, hm1⟩ := open_api (hval 1 24 v1 rfl rfl) h1
  clear hA0 hval0
  refine (sums_any hAw hl0 hl1 hr0 hr1 hc0 hm0 hc1 hm1).mono fun e W' ⟨he, hext⟩ => ?_
  subst he
  have hb : Below W.heap.size W W' := hext
  have g0 := Below.trod Try.laidOut (by kernel_rfl) (of_decide_eq_true (by kernel_rfl)) h0 hb (fun p hp => hlt p (List.mem_append.2 (.inl hp)))
  have g1 := Below.trod Try.laidOut (by kernel_rfl) (of_decide_eq_true (by kernel_rfl)) h1 hb (fun p hp => hlt p (List.mem_append.2 (.inr hp)))
  exact ⟨_, rfl, _, _, _, [], (p0 ++ p1), [], hW', trodAll_mk1 (shut_bool Try.underlying4 true), trodAll_mk2 g0 g1, rfl, Below.frame hb _, fun h => by cases h⟩
theorem sums_holds (hAw : Awake) : Rows.IntegerSumsSaid :=
  OpenClaim.holds_of_wide 4 Try.f4 rfl rfl rfl rfl rfl rfl rfl ⟨rfl, rfl, rfl, rfl, rfl⟩ rfl rfl rfl rfl rfl (by kernel_rfl) Try.func4 (by kernel_rfl)
    (of_decide_eq_true (by kernel_rfl)) (by unfold Func.isWrapper; rw [if_neg (of_decide_eq_false (by kernel_rfl))]; exact ⟨rfl, rfl⟩)
    (fun os started H enc _ => sums_lifted hAw os started H enc)
end Go.Proofs.Ytmjmcinnbmjpdaa
