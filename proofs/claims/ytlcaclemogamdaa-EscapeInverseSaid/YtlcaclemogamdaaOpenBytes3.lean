/- A slice of bytes that is handed in reads as a list of numbers from 0 to 255. -/
import Derived.Test.YtlcaclemogamdaaLitWalk
import Derived.ProofKit
import Derived.ChangeSlices
namespace Go.Proofs.Ytlcaclemogamdaa
open Go.RowKit Go.WideShapes Go.ChangeShapes
theorem wf_u8 {n : Int} (h : (Lit.int .u8 n).wf = true) : 0 ≤ n ∧ n ≤ 255 := by
  have e1 : IntKind.u8.min = 0 := rfl
  have e2 : IntKind.u8.max = 255 := rfl
  simp only [Lit.wf, e1, e2, Bool.and_eq_true, decide_eq_true_eq] at h
  exact h
theorem open_bytes {H : Type} {enc : TypeId × Value → H} {w : World} {base b0 : Nat} {r : Reach} {sp : Nat → Bool} {held : Bool} {v : Value} {d : DataW H} {ps : List MemPlace}
    (hu : Try.prog.underlying 30 = some (.slice 5)) (h8 : Try.prog.underlying 5 = some (.int .u8)) (hc1 : Try.prog.cellsOf 5 = 1)
    (hval : Value.okWide Try.prog w r b0 30 v) (hd : DataW.Trod enc Try.prog w base sp held 30 v d ps) :
    ∃ l : List Int, RowAt w v (l.map (Value.int .u8)) ∧ (∀ x, x ∈ l → 0 ≤ x ∧ x ≤ 255) ∧ l.length ≤ 9223372036854775807 := by
  obtain ⟨fuel, hf⟩ := hd
  have hcell : v.cells = #[v] := by
    unfold Value.okWide at hval
    rw [hu] at hval
    simp only [Cell.okWide] at hval
    cases v <;> first | rfl | simp [hu, Cell.ok] at hval
  rw [hcell] at hf
  rcases open_ints hu h8 hc1 hf with ⟨h, -⟩ | ⟨a, len, cap, zs, h, -, hle, hcap, hz, -, hcs, hwf⟩
  · have : v = .slice none 0 0 := by simpa using h
    subst this
    exact ⟨[], ⟨none, 0, rfl, .inl rfl⟩, by simp, by simp⟩
  · have : v = .slice (some a) len cap := by simpa using h
    subst this
    have hlen : len ≤ zs.length := by rw [hz]; split <;> omega
    refine ⟨zs.take len, ⟨some a, cap, ?_, ?_⟩, fun x hx => wf_u8 (hwf x (List.mem_of_mem_take hx)), ?_⟩
    · rw [List.length_map, List.length_take, Nat.min_eq_left hlen]
    · by_cases h0 : len = 0
      · exact .inl (by subst h0; rfl)
      · right
        have hz0 := hcs 0 (by omega)
        have hsp := World.cell?_spot hz0
        rw [Addr.add_zero'] at hsp
        obtain ⟨b, off, spt⟩ := a
        have hsp' : spt = none := hsp
        subst hsp'
        refine ⟨b, off, rfl, fun i c hi => ?_⟩
        rw [List.getElem?_map, List.getElem?_take] at hi
        split at hi
        · obtain ⟨x, hx, rfl⟩ : ∃ x, zs[i]? = some x ∧ Value.int .u8 x = c := by
            cases hzi : zs[i]? with
            | none => rw [hzi] at hi; cases hi
            | some x => rw [hzi] at hi; cases hi; exact ⟨x, rfl, rfl⟩
          have hc := hcs i (List.getElem?_eq_some_iff.1 hx).1
          rw [Addr.add_lit, List.getD_eq_getElem?_getD, hx] at hc
          exact hc
        · cases hi
    · rw [List.length_take, Nat.min_eq_left hlen]; unfold maxLen at hcap; omega
end Go.Proofs.Ytlcaclemogamdaa
