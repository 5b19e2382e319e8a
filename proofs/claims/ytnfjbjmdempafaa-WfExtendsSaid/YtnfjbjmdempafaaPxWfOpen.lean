/- A grammar argument opened, with the capacities of its lists of kids. -/
import Derived.Test.YtnfjbjmdempafaaPxWD
import Derived.Test.YtnfjbjmdempafaaPxL
namespace Go.Proofs.Ytnfjbjmdempafaa
open Go.ChangeShapes Go.WideShapes Go.RowKit Go.Deep Go.Joins
section
variable {H : Type} {enc : TypeId × Value → H} {w : World} {base : Nat} {spare : Nat → Bool} {held : Bool}
theorem gints_cap12 {fuel : Nat} {c : Value} {y : DataW H × List MemPlace} (h : DataW.trod enc Try.prog w base spare held fuel 30 [c] = some y) : ∀ a n cap, c = .slice a n cap → n ≤ cap := by
  intro a n cap hc
  rcases open_slice Try.underlying30 h with ⟨hd, -⟩ | ⟨a', len, cap', m, k, D, Pl, hd, -, hl, -⟩
  · have := (List.cons.inj hd).1
    rw [hc] at this
    injection this with e1 e2 e3
    omega
  · have := (List.cons.inj hd).1
    rw [hc] at this
    injection this with e1 e2 e3
    omega
set_option maxRecDepth 100000 in
theorem gnode_cap12 {fuel : Nat} {cs : List Value} {y : DataW H × List MemPlace} (h : DataW.trod enc Try.prog w base spare held fuel 35 cs = some y) : ∀ a n cap, cs[1]? = some (.slice a n cap) → n ≤ cap := by
  have hs := Try.underlying35
  have hC : Try.prog.cellsOf 35 = 7 := by kernel_rfl
  have c2 : Try.prog.cellsOf 30 = 1 := by kernel_rfl
  have c3 : Try.prog.cellsOf 33 = 4 := by kernel_rfl
  obtain ⟨xs, n, -, -, hlen, hl, hg⟩ := DataW.trod_struct hs h
  rw [hC] at hlen
  obtain ⟨v0, v1, v2, v3, v4, v5, v6, rfl⟩ : ∃ v0 v1 v2 v3 v4 v5 v6, cs = [v0, v1, v2, v3, v4, v5, v6] := by
    match cs, hlen with
    | [v0, v1, v2, v3, v4, v5, v6], _ => exact ⟨v0, v1, v2, v3, v4, v5, v6, rfl⟩
  have hl2 : xs.length = 4 := hl
  have g1 := hg 1 _ rfl
  rw [List.getElem?_eq_getElem (by omega)] at g1
  simp [c2] at g1
  intro a n' cap hc
  have : v1 = .slice a n' cap := by simpa using hc
  exact gints_cap12 g1 a n' cap this
theorem gnodes_caps12 {fuel : Nat} {c : Value} {N : Nat} {y : DataW H × List MemPlace} (h : DataW.trod enc Try.prog w base spare held fuel 23 [c] = some y) (hN : ∀ a n cap, c = .slice a n cap → n = N) : CapsAt w c N := by
  intro b off n cc hc i hi a m d hcell
  rcases open_slice Try.underlying23 h with ⟨hd, -⟩ | ⟨a', len, cap', m', k, D, Pl, hd, hb, hl, hm, hmm, -, hi'⟩
  · have := (List.cons.inj hd).1
    rw [hc] at this
    injection this with e1 e2 e3
    cases e1
  · have h1 := (List.cons.inj hd).1
    have hn := hN _ _ _ hc
    rw [hc] at h1
    injection h1 with e1 e2 e3
    cases e1
    have hlm : len ≤ m' := by rw [hmm]; split <;> omega
    have hC : Try.prog.cellsOf 35 = 7 := by kernel_rfl
    rw [hC] at hi'
    obtain ⟨cs, hcs, ht⟩ := hi' i (by omega)
    obtain ⟨-, -, hat⟩ := World.cells?_some hcs
    have h1 := hat 1 (by decide)
    rw [Go.Deep.add_add, Addr.add_lit] at h1
    refine gnode_cap12 ht a m d ?_
    rw [← Nat.add_assoc] at h1
    exact h1.symm.trans hcell
set_option maxRecDepth 100000 in
/-- An argument that is a grammar. -/
theorem open_grammar12 {r : Reach} {b0 : Nat} {v : Value} {d : DataW H} {p : List MemPlace} (hv : Value.okWide Try.prog w r b0 25 v) (h : DataW.Trod enc Try.prog w base spare held 25 v d p) :
    ∃ (rv nv : Value) (rs : List PR) (ns : List PN), v = .agg #[rv, nv] ∧ RulesIn w rv rs ∧ NodesAt w nv ns ∧ CapsAt w nv ns.length := by
  have hs := Try.underlying25
  have hC : Try.prog.cellsOf 25 = 2 := by kernel_rfl
  have c1 : Try.prog.cellsOf 22 = 1 := by kernel_rfl
  have c2 : Try.prog.cellsOf 23 = 1 := by kernel_rfl
  obtain ⟨⟨l⟩, rfl, hsz⟩ := okWide_struct hs hv
  rw [hC] at hsz
  obtain ⟨v0, v1, rfl⟩ : ∃ v0 v1, l = [v0, v1] := by
    match l, hsz with
    | [v0, v1], _ => exact ⟨v0, v1, rfl⟩
  obtain ⟨fuel, hf⟩ := h
  obtain ⟨xs, n, -, -, -, hlen, hg⟩ := DataW.trod_struct hs hf
  have hl2 : xs.length = 2 := hlen
  have g0 := hg 0 _ rfl
  have g1 := hg 1 _ rfl
  rw [List.getElem?_eq_getElem (by omega)] at g0 g1
  simp [Value.cells, c1, c2] at g0 g1
  obtain ⟨rs, h1⟩ := grules_of g0
  obtain ⟨ns, h2⟩ := gnodes_of g1
  refine ⟨v0, v1, rs, ns, rfl, h1, h2, gnodes_caps12 g1 fun a n cap e => ?_⟩
  obtain ⟨-, a', c', e', -⟩ := h2
  rw [e] at e'
  injection e' with e1 e2 e3
end
end Go.Proofs.Ytnfjbjmdempafaa
