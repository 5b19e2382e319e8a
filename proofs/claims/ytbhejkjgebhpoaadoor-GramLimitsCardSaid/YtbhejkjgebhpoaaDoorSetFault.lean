/- The one store of two cells that errors.As makes where the target is a fault. No walk. -/
import Derived.Test.YtbhejkjgebhpoaaDoorFacts
import Derived.Laws.Cells
namespace Go.Proofs.YtbhejkjgebhpoaaDoor
open Go.RowKit Go.Extern.Stop Go.Stop Go.Extern
theorem setFault (t b : Nat) (c p : Int) (x y : Value) (W : World) (hb : W.cell? ⟨b, 0, none⟩ = some (.int .i64 c)) (hb1 : W.cell? ⟨b, 1, none⟩ = some (.int .i64 p)) (ht : W.cell? ⟨t, 0, none⟩ = some x) (ht1 : W.cell? ⟨t, 1, none⟩ = some y)
    (hf : W.frozen? ⟨t, 0, none⟩ = false) (hf1 : W.frozen? ⟨t, 1, none⟩ = false) :
    (ReflectliteValue.set #[vOf 65 ⟨t, 0, none⟩ 409, vOf 65 ⟨b, 0, none⟩ 153]).run Tryd.prog W = .ok (.tuple #[]) ((W.setCell ⟨t, 0, none⟩ (.int .i64 c)).setCell ⟨t, 1, none⟩ (.int .i64 p)) := by
  rw [rls]
  simp only [Sem.run_bind, partsAFault, partsFault, Result.andThen]
  have hl : (loadCells ⟨b, 0, none⟩ 2).run Tryd.prog W = .ok #[.int .i64 c, .int .i64 p] W :=
    run_loadCells_list W ⟨b, 0, none⟩ [.int .i64 c, .int .i64 p] (fun j v h => by
      rcases j with _ | _ | j
      · simp at h; subst h; simpa [Addr.add] using hb
      · simp at h; subst h; simpa [Addr.add] using hb1
      · simp at h)
  simp [ReflectliteValue.flagAddr, loadVar, isAgg, underlying, Tryd.underlying65, Result.andThen, directFault, storeVar, Value.cells, storeCells, Addr.add, hl]
  rw [run_store Tryd.prog W ⟨t, 0, none⟩ _ _ (by rfl)]
  simp only [ht, hf, Bool.false_eq_true, if_false]
  rw [run_store Tryd.prog _ ⟨t, 1, none⟩ _ _ (by rfl)]
  simp [World.cell?_setCell_other, ht1, hf1]
end Go.Proofs.YtbhejkjgebhpoaaDoor
