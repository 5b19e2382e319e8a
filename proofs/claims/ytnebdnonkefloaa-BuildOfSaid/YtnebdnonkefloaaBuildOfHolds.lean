/- Proved: the law BuildOf returns true for every list of rules with items, and changes nothing that lay in memory before. No condition. -/
import Derived.Test.YtnebdnonkefloaaRows
import Derived.Test.YtnebdnonkefloaaBuildOpen
import Derived.Test.YtnebdnonkefloaaBuildAwake
import Derived.Test.YtnebdnonkefloaaLift
import Derived.SizedLaws
import Derived.ChangeMaps5
namespace Go.Proofs.Ytnebdnonkefloaa
open Go.ChangeShapes Go.WideShapes Go.ChangeAt Go.RowKit Go.ChangeMaps
theorem own_bof : ownKnob Try.prog.godebug = none := by kernel_rfl
theorem laid_bof : laidOutB Try.prog = true := by kernel_rfl
set_option maxRecDepth 100000 in
theorem bof_lifted (os : Os) (started : os.Started) (H : Type) (enc : TypeId × Value → H) :
    ReturnsInHanded {} Try.checked os 3 .any (Rows.buildOfSpec.pre6 enc Try.prog Try.f3 Rows.buildOfRow.domain false) (Rows.buildOfSpec.post enc Try.prog Try.f3 false true false false) := by
  refine returnsInHanded_of_change_sized (C := Try.checked) own_bof started (by kernel_rfl) Try.func3
    (ChangeSpec.witness6 (enc := enc) (C := Try.checked) false ⟨#[], #[.slice none 0 0], []⟩ 8 (by kernel_rfl) (by kernel_rfl) (by kernel_rfl) (by kernel_rfl)) ?_
  intro W base args ds gs before hval0 hW hcnd hsz0 _
  have hsz : (DataW.weightsEach Try.prog (Try.f3.params.toList ++ Rows.buildOfSpec.plain.varTypes Try.prog) (ds ++ gs)).all (· ≤ reachBytes) = true := hsz0
  clear hsz0
  have hval : ∀ (j : Nat) t v, Try.f3.params[j]? = some t → args[j]? = some v → Value.okWide Try.prog W .any base t v := hval0
  have hW' := hW
  obtain ⟨p, q, hA0, hV, rfl, hfz, hnd⟩ := hW
  have hA : DataW.TrodAll enc Try.prog W 0 (fun _ => true) true Try.f3.params.toList args.toList ds p := hA0
  rw [Try.params3] at hA hval hsz
  obtain ⟨v0, d0, rfl, rfl, h0⟩ := trodAll_one hA
  obtain ⟨rfl, rfl⟩ := trodVars_none hV
  obtain ⟨l, hl, hB⟩ := open_qs (hval 0 22 v0 rfl rfl) h0
  obtain ⟨hl1, hl2⟩ := hB reachBytes fun n hn => of_decide_eq_true (List.all_eq_true.1 hsz _ (DataW.weights_mem_each (j := 0) rfl rfl n hn))
  refine (lawOf_any buildAwake v0 l W (by unfold reachBytes at hl1; omega) (fun q hq => by have := hl2 q hq; unfold reachBytes at this; omega) hl).mono fun e W' ⟨he, hb⟩ => ?_
  subst he
  exact ⟨_, rfl, post_law laid_bof (by kernel_rfl) rfl rfl Try.underlying4 rfl rfl rfl hW' hb⟩
theorem bof_holds : Rows.BuildOfSaid :=
  OpenClaim.holds_of_wide 3 Try.f3 rfl rfl rfl rfl rfl rfl rfl ⟨rfl, rfl, rfl, rfl, rfl⟩ rfl rfl rfl rfl rfl (by kernel_rfl) Try.func3 (by kernel_rfl)
    (of_decide_eq_true (by kernel_rfl)) (by unfold Func.isWrapper; first | (rw [if_pos (by decide +kernel)]; kernel_rfl) | (rw [if_neg (by decide +kernel)]; exact ⟨rfl, rfl⟩))
    (fun os started H enc _ => bof_lifted os started H enc)
end Go.Proofs.Ytnebdnonkefloaa
