/- A set that is handed in is four words: some function tells its members. -/
import Derived.Test.YtcfjclcbfhajcaaSetMath
import Derived.Test.YtcfjclcbfhajcaaProg
import Derived.Laws.IdiomArrays
import Derived.ProofKit
namespace Go.Proofs.Ytcfjclcbfhajcaa
open Go.RowKit Go.WideShapes Go.ChangeShapes
theorem wf_u64 {n : Int} (h : (Lit.int .u64 n).wf = true) : 0 ≤ n ∧ n ≤ 18446744073709551615 := by
  have e1 : IntKind.u64.min = 0 := rfl
  have e2 : IntKind.u64.max = 18446744073709551615 := rfl
  simp only [Lit.wf, e1, e2, Bool.and_eq_true, decide_eq_true_eq] at h
  exact h
theorem open_set {H : Type} {enc : TypeId × Value → H} {w : World} {base b0 : Nat} {r : Reach} {sp : Nat → Bool} {held : Bool} {v : Value} {d : DataW H} {ps : List MemPlace}
    (hu : Try.prog.underlying 24 = some (.array 4 22)) (h64 : Try.prog.underlying 22 = some (.int .u64)) (hc : Try.prog.cellsOf 24 = 4) (hc1 : Try.prog.cellsOf 22 = 1)
    (hval : Value.okWide Try.prog w r b0 24 v) (hd : DataW.Trod enc Try.prog w base sp held 24 v d ps) :
    ∃ f : Nat → Bool, v = .agg #[.int .u64 (setW f 0), .int .u64 (setW f 1), .int .u64 (setW f 2), .int .u64 (setW f 3)] := by
  unfold Value.okWide at hval
  rw [hu] at hval
  obtain ⟨cs, rfl, hsz, -⟩ := hval
  rw [hc] at hsz
  obtain ⟨l⟩ := cs
  match l, hsz with
  | [c0, c1, c2, c3], _ =>
    obtain ⟨fuel, hf⟩ := hd
    obtain ⟨y0, y1, y2, y3, n, -, h0, h1, h2, h3⟩ := trod_array4 hu hc1 hf
    obtain ⟨n0, e0, -, w0⟩ := DataW.trod_int h64 h0
    obtain ⟨n1, e1, -, w1⟩ := DataW.trod_int h64 h1
    obtain ⟨n2, e2, -, w2⟩ := DataW.trod_int h64 h2
    obtain ⟨n3, e3, -, w3⟩ := DataW.trod_int h64 h3
    cases e0; cases e1; cases e2; cases e3
    obtain ⟨f, rfl, rfl, rfl, rfl⟩ := setW_some n0 n1 n2 n3 (wf_u64 w0) (wf_u64 w1) (wf_u64 w2) (wf_u64 w3)
    exact ⟨f, rfl⟩
end Go.Proofs.Ytcfjclcbfhajcaa
