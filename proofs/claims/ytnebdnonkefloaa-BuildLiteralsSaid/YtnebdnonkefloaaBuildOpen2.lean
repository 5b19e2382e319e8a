/- A slice of bytes that is handed in, as a list of numbers below 256, with its capacity. -/
import Derived.Test.YtnebdnonkefloaaBase
import Derived.ProofKit
import Derived.ChangeSlices
namespace Go.Proofs.Ytnebdnonkefloaa
open Go.RowKit Go.WideShapes Go.ChangeShapes
theorem open_u8s {H : Type} {enc : TypeId × Value → H} {w : World} {base b0 : Nat} {r : Reach} {sp : Nat → Bool} {held : Bool} {v : Value} {d : DataW H} {ps : List MemPlace}
    (hu : Try.prog.underlying 57 = some (.slice 5)) (h8 : Try.prog.underlying 5 = some (.int .u8)) (hc1 : Try.prog.cellsOf 5 = 1)
    (hval : Value.okWide Try.prog w r b0 57 v) (hd : DataW.Trod enc Try.prog w base sp held 57 v d ps) :
    ∃ (va : Option Addr) (vc : Nat) (l : List Nat), v = .slice va l.length vc ∧ RowAt w (.slice va l.length vc) (u8s l) ∧ l.length ≤ vc ∧ vc ≤ 9223372036854775807 ∧ ∀ c, c ∈ l → c < 256 := by
  obtain ⟨fuel, hf⟩ := hd
  have hcell : v.cells = #[v] := by
    unfold Value.okWide at hval
    rw [hu] at hval
    simp only [Cell.okWide] at hval
    cases v <;> first | rfl | simp [hu, Cell.ok] at hval
  rw [hcell] at hf
  rcases open_ints hu h8 hc1 hf with ⟨h, -⟩ | ⟨a, len, cap, zs, h, -, hle, hcap, hz, -, hcs, hwf⟩
  · have : v = .slice none 0 0 := by simpa using h
    subst this
    exact ⟨none, 0, [], rfl, ⟨none, 0, rfl, .inl rfl⟩, Nat.le_refl _, by decide, by simp⟩
  · have : v = .slice (some a) len cap := by simpa using h
    subst this
    have hlen : len ≤ zs.length := by rw [hz]; split <;> omega
    have hwf' : ∀ x, x ∈ zs → 0 ≤ x ∧ x ≤ 255 := fun x hx => by
      have h := hwf x hx
      have e1 : IntKind.u8.min = 0 := rfl
      have e2 : IntKind.u8.max = 255 := rfl
      simp only [Lit.wf, e1, e2, Bool.and_eq_true, decide_eq_true_eq] at h
      exact h
    have hll : ((zs.take len).map Int.toNat).length = len := by rw [List.length_map, List.length_take, Nat.min_eq_left hlen]
    have hul : (u8s ((zs.take len).map Int.toNat)).length = len := by unfold u8s; rw [List.length_map, hll]
    refine ⟨some a, cap, (zs.take len).map Int.toNat, by rw [hll], ⟨some a, cap, by rw [hul, hll], ?_⟩, by rw [hll]; exact hle, by unfold maxLen at hcap; omega, fun c hc => ?_⟩
    · by_cases h0 : len = 0
      · exact .inl (by subst h0; rfl)
      · right
        have hz0 := hcs 0 (by omega)
        have hsp := World.cell?_spot hz0
        rw [Addr.add_zero'] at hsp
        obtain ⟨b, off, spt⟩ := a
        have hsp' : spt = none := hsp
        subst hsp'
        refine ⟨b, off, rfl, fun i c hi => ?_⟩
        unfold u8s at hi
        rw [List.getElem?_map, List.getElem?_map, List.getElem?_take] at hi
        split at hi
        · cases hzi : zs[i]? with
          | none => rw [hzi] at hi; cases hi
          | some x =>
            rw [hzi] at hi
            obtain rfl := Option.some.inj hi
            have hc := hcs i (List.getElem?_eq_some_iff.1 hzi).1
            rw [Addr.add_lit, List.getD_eq_getElem?_getD, hzi] at hc
            have hx := hwf' x (List.mem_of_getElem? hzi)
            show w.cell? _ = some (Value.int .u8 ((x.toNat : Nat) : Int))
            rw [Int.toNat_of_nonneg hx.1]
            exact hc
        · cases hi
    · obtain ⟨y, hy, rfl⟩ := List.mem_map.1 hc
      have := hwf' y (List.mem_of_mem_take hy)
      omega
end Go.Proofs.Ytnebdnonkefloaa
