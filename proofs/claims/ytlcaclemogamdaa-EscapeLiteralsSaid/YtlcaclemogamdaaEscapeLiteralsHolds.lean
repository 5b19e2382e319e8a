/- Proved: the law EscapeLiterals returns true for every slice of bytes, and changes nothing that lay in memory before. No condition. -/
import Derived.Test.YtlcaclemogamdaaRows
import Derived.Test.YtlcaclemogamdaaOpenBytes3
import Derived.Test.YtlcaclemogamdaaLitLaws
import Derived.Test.YtlcaclemogamdaaLift
import Derived.ChangeMaps5
namespace Go.Proofs.Ytlcaclemogamdaa
open Go.ChangeShapes Go.WideShapes Go.ChangeAt Go.RowKit Go.ChangeMaps
theorem own_literals : ownKnob Try.prog.godebug = none := by kernel_rfl
theorem laid_literals : laidOutB Try.prog = true := by kernel_rfl
set_option maxRecDepth 100000 in
theorem literals_lifted (os : Os) (started : os.Started) (H : Type) (enc : TypeId × Value → H) :
    ReturnsInHanded {} Try.checked os 5 .any (Rows.escapeLiteralsSpec.pre6 enc Try.prog Try.f5 Rows.escapeLiteralsRow.domain false) (Rows.escapeLiteralsSpec.post enc Try.prog Try.f5 false true false false) := by
  refine returnsInHanded_of_change (C := Try.checked) own_literals started (by kernel_rfl) Try.func5
    (ChangeSpec.witness6 (enc := enc) (C := Try.checked) false ⟨#[], #[.slice none 0 0], []⟩ 8 (by kernel_rfl) (by kernel_rfl) (by kernel_rfl) (by kernel_rfl)) ?_
  intro W base args ds gs before hval0 hW hcnd _
  have hval : ∀ (j : Nat) t v, Try.f5.params[j]? = some t → args[j]? = some v → Value.okWide Try.prog W .any base t v := hval0
  have hW' := hW
  obtain ⟨p, q, hA0, hV, rfl, hfz, hnd⟩ := hW
  have hA : DataW.TrodAll enc Try.prog W 0 (fun _ => true) true Try.f5.params.toList args.toList ds p := hA0
  rw [Try.params5] at hA hval
  obtain ⟨v0, d0, rfl, rfl, h0⟩ := trodAll_one hA
  obtain ⟨rfl, rfl⟩ := trodVars_none hV
  obtain ⟨l, hl, hl1, hl2⟩ := open_bytes Try.underlying30 Try.underlying5 (by kernel_rfl) (hval 0 30 v0 rfl rfl) h0
  have hu : u8s (l.map Int.toNat) = l.map (Value.int .u8) := by
    unfold u8s
    rw [List.map_map]
    refine List.map_congr_left fun x hx => ?_
    show Value.int .u8 ((x.toNat : Nat) : Int) = Value.int .u8 x
    rw [Int.toNat_of_nonneg (hl1 x hx).1]
  have hm : ∀ x, x ∈ l.map Int.toNat → x < 256 := by
    intro x hx
    obtain ⟨y, hy, rfl⟩ := List.mem_map.1 hx
    have := hl1 y hy
    omega
  refine (literals_any (l.map Int.toNat) v0 W (by rw [hu]; exact hl) hm (by rw [List.length_map]; exact hl2)).mono fun e W' ⟨he, hb⟩ => ?_
  subst he
  exact ⟨_, rfl, post_law laid_literals (by kernel_rfl) rfl rfl Try.underlying4 rfl rfl rfl hW' hb⟩
theorem literals_holds : Rows.EscapeLiteralsSaid :=
  OpenClaim.holds_of_wide 5 Try.f5 rfl rfl rfl rfl rfl rfl rfl ⟨rfl, rfl, rfl, rfl, rfl⟩ rfl rfl rfl rfl rfl (by kernel_rfl) Try.func5 (by kernel_rfl)
    (of_decide_eq_true (by kernel_rfl)) (by unfold Func.isWrapper; first | (rw [if_pos (by decide +kernel)]; kernel_rfl) | (rw [if_neg (by decide +kernel)]; exact ⟨rfl, rfl⟩))
    (fun os started H enc _ => literals_lifted os started H enc)
end Go.Proofs.Ytlcaclemogamdaa
