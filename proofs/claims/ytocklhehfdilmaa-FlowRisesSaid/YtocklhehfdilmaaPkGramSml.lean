/- The reference's Small. -/
import Derived.Test.YtocklhehfdilmaaPkGramFew
import Derived.Test.YtocklhehfdilmaaPkGramRef
namespace Go.Proofs.Ytocklhehfdilmaa
open Go.RowKit
theorem rsmall_any (rv nv : Value) (rs : List PR) (ns : List PN) (w : World) (hR : RulesIn w rv rs) (hN : NodesAt w nv ns) :
    Calls Try.prog 9 #[.agg #[rv, nv]] w fun e w' => e = .returned (.bool (fewB rs ns && okB (chkL rs ns))) ∧ Below w.heap.size w w' := by
  have HF := Lib.hid (fun (o : Obj) => few_any rv nv rs ns (w.alloc o) (hR.kept (one_new w o) (Nat.le_refl _)) (hN.kept (one_new w o) (Nat.le_refl _)))
  cases hf : fewB rs ns with
  | false =>
    rw [hf] at HF
    obtain ⟨-, ra, rc, rfl, -⟩ := hR
    obtain ⟨-, na, nc, rfl, -⟩ := hN
    clear hf
    go_enter Try.func9, Try.ntmps9
    go_wp2_with (go_at_call 20; (with_reducible refine (HF.out _).mono ?_); rintro e w5 ⟨rfl, hb⟩; have HW := Lib.hid ((one_new w _).trans (hb.mono (one_new w _).size)); clear hb)
    go_ret
    exact ⟨rfl, HW.out⟩
  | true =>
    rw [hf] at HF
    have hnm : ∀ r, r ∈ rs → r.name.size ≤ 2000000 := fun r hr => by have := (fewB_yes hf).1 r hr; omega
    have HV := Lib.hid (fun (W : World) (hb : Below w.heap.size w W) => valid_any rv nv rs ns W (hR.kept hb (Nat.le_refl _)) (hN.kept hb (Nat.le_refl _)) hnm)
    obtain ⟨-, ra, rc, rfl, -⟩ := hR
    obtain ⟨-, na, nc, rfl, -⟩ := hN
    generalize okB (chkL rs ns) = c at *
    clear hf hnm
    go_enter Try.func9, Try.ntmps9
    go_wp2_with (first
      | (go_at_call 20; (with_reducible refine (HF.out _).mono ?_); rintro e w5 ⟨rfl, hb⟩; have HW := Lib.hid ((one_new w _).trans (hb.mono (one_new w _).size)); have hb2 := (one_new w (.cells #[.slice ra rs.length rc, .slice na ns.length nc] 25)); have b0 := (bcell hb).1 w.heap.size 0 (by simp); have b1 := (bcell hb).1 w.heap.size 1 (by simp); simp at b0 b1; clear hb hb2)
      | (go_at_call 21; (with_reducible refine (HV.out _ HW.out).mono ?_); rintro e w6 ⟨rfl, hb⟩; replace HW := Lib.hid (HW.out.trans (hb.mono HW.out.size)); clear hb))
    go_ret
    exact ⟨rfl, HW.out⟩
end Go.Proofs.Ytocklhehfdilmaa
