/- An argument that is a grammar, opened, with what its slice of nodes has of capacity. -/
import Derived.Test.YtnebdnonkefloaaGramOpen
namespace Go.Proofs.Ytnebdnonkefloaa
open Go.ChangeShapes Go.WideShapes Go.RowKit Go.Deep Go.Joins
section
variable {H : Type} {enc : TypeId × Value → H} {w : World} {base : Nat} {spare : Nat → Bool} {held : Bool}
theorem gnodes_cap {fuel : Nat} {c : Value} {y : DataW H × List MemPlace} (h : DataW.trod enc Try.prog w base spare held fuel 34 [c] = some y) : ∀ a n cap, c = .slice a n cap → n ≤ cap := by
  intro a n cap hc
  rcases open_slice Try.underlying34 h with ⟨hd, -⟩ | ⟨a', len, cap', m, k, D, Pl, hd, -, hl, -⟩
  · have := (List.cons.inj hd).1
    rw [hc] at this
    injection this with e1 e2 e3
    omega
  · have := (List.cons.inj hd).1
    rw [hc] at this
    injection this with e1 e2 e3
    omega
set_option maxRecDepth 100000 in
theorem open_grammar_cap {r : Reach} {b0 : Nat} {v : Value} {d : DataW H} {p : List MemPlace} (hv : Value.okWide Try.prog w r b0 36 v) (h : DataW.Trod enc Try.prog w base spare held 36 v d p) :
    ∃ (rv nv : Value) (rs : List PR) (ns : List PN), v = .agg #[rv, nv] ∧ RulesIn w rv rs ∧ NodesAt w nv ns ∧ ∀ a n cap, nv = .slice a n cap → n ≤ cap := by
  have hs := Try.underlying36
  have hC : Try.prog.cellsOf 36 = 2 := by kernel_rfl
  have c1 : Try.prog.cellsOf 33 = 1 := by kernel_rfl
  have c2 : Try.prog.cellsOf 34 = 1 := by kernel_rfl
  obtain ⟨⟨l⟩, rfl, hsz⟩ := okWide_struct hs hv
  rw [hC] at hsz
  obtain ⟨v0, v1, rfl⟩ : ∃ v0 v1, l = [v0, v1] := by
    match l, hsz with
    | [v0, v1], _ => exact ⟨v0, v1, rfl⟩
  obtain ⟨fuel, hf⟩ := h
  obtain ⟨xs, n, -, -, -, hlen, hg⟩ := DataW.trod_struct hs hf
  have hl2 : xs.length = 2 := hlen
  have g0 := hg 0 _ rfl
  have g1 := hg 1 _ rfl
  rw [List.getElem?_eq_getElem (by omega)] at g0 g1
  simp [Value.cells, c1, c2] at g0 g1
  obtain ⟨rs, h1⟩ := grules_of g0
  obtain ⟨ns, h2⟩ := gnodes_of g1
  exact ⟨v0, v1, rs, ns, rfl, h1, h2, gnodes_cap g1⟩
end
end Go.Proofs.Ytnebdnonkefloaa
