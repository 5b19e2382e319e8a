/- Proved: the law BuildLiterals returns true for every slice of bytes, and changes nothing that lay in memory before. No condition. -/
import Derived.Test.YtnebdnonkefloaaRows
import Derived.Test.YtnebdnonkefloaaBuildOpen2
import Derived.Test.YtnebdnonkefloaaBuildLits
import Derived.Test.YtnebdnonkefloaaBuildAwake
import Derived.Test.YtnebdnonkefloaaLift
import Derived.ChangeMaps5
namespace Go.Proofs.Ytnebdnonkefloaa
open Go.ChangeShapes Go.WideShapes Go.ChangeAt Go.RowKit Go.ChangeMaps
theorem own_blits : ownKnob Try.prog.godebug = none := by kernel_rfl
theorem laid_blits : laidOutB Try.prog = true := by kernel_rfl
set_option maxRecDepth 100000 in
theorem blits_lifted (os : Os) (started : os.Started) (H : Type) (enc : TypeId × Value → H) :
    ReturnsInHanded {} Try.checked os 7 .any (Rows.buildLiteralsSpec.pre6 enc Try.prog Try.f7 Rows.buildLiteralsRow.domain false) (Rows.buildLiteralsSpec.post enc Try.prog Try.f7 false true false false) := by
  refine returnsInHanded_of_change (C := Try.checked) own_blits started (by kernel_rfl) Try.func7
    (ChangeSpec.witness6 (enc := enc) (C := Try.checked) false ⟨#[], #[.slice none 0 0], []⟩ 8 (by kernel_rfl) (by kernel_rfl) (by kernel_rfl) (by kernel_rfl)) ?_
  intro W base args ds gs before hval0 hW hcnd _
  have hval : ∀ (j : Nat) t v, Try.f7.params[j]? = some t → args[j]? = some v → Value.okWide Try.prog W .any base t v := hval0
  have hW' := hW
  obtain ⟨p, q, hA0, hV, rfl, hfz, hnd⟩ := hW
  have hA : DataW.TrodAll enc Try.prog W 0 (fun _ => true) true Try.f7.params.toList args.toList ds p := hA0
  rw [Try.params7] at hA hval
  obtain ⟨v0, d0, rfl, rfl, h0⟩ := trodAll_one hA
  obtain ⟨rfl, rfl⟩ := trodVars_none hV
  obtain ⟨va, vc, l, rfl, hl, hcap, hvc, hc⟩ := open_u8s Try.underlying57 Try.underlying5 (by kernel_rfl) (hval 0 57 v0 rfl rfl) h0
  refine (lawLits_any buildAwake va vc l W hl hcap hvc hc).mono fun e W' ⟨he, hb⟩ => ?_
  subst he
  exact ⟨_, rfl, post_law laid_blits (by kernel_rfl) rfl rfl Try.underlying4 rfl rfl rfl hW' hb⟩
theorem blits_holds : Rows.BuildLiteralsSaid :=
  OpenClaim.holds_of_wide 7 Try.f7 rfl rfl rfl rfl rfl rfl rfl ⟨rfl, rfl, rfl, rfl, rfl⟩ rfl rfl rfl rfl rfl (by kernel_rfl) Try.func7 (by kernel_rfl)
    (of_decide_eq_true (by kernel_rfl)) (by unfold Func.isWrapper; first | (rw [if_pos (by decide +kernel)]; kernel_rfl) | (rw [if_neg (by decide +kernel)]; exact ⟨rfl, rfl⟩))
    (fun os started H enc _ => blits_lifted os started H enc)
end Go.Proofs.Ytnebdnonkefloaa
