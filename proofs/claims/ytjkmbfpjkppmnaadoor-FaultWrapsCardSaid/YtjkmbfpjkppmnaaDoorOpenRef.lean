/- A description of an error, opened: its five fields; and what a world that fits gives of the library's own table. -/
import Derived.Test.YtjkmbfpjkppmnaaDoorRules
import Derived.Test.YtjkmbfpjkppmnaaDoorFormatInt
import Derived.ChangeSame
import Derived.RowKit
import Derived.SliceStrings
import Derived.Lib.SmallJoins
namespace Go.Proofs.YtjkmbfpjkppmnaaDoor
open Go.ChangeShapes Go.WideShapes Go.RowKit Go.Deep Go.Joins
section
variable {H : Type} {enc : TypeId × Value → H} {w : World} {base : Nat} {spare : Nat → Bool} {held : Bool}
theorem bool_of {fuel : Nat} {c : Value} {y : DataW H × List MemPlace} (h : DataW.trod enc Tryd.prog w base spare held fuel 4 [c] = some y) : ∃ b, c = .bool b := by
  cases fuel with
  | zero => simp [DataW.trod] at h
  | succ fuel =>
    cases c <;> simp [DataW.trod, Tryd.underlying4] at h
    exact ⟨_, rfl⟩
theorem int_of {fuel : Nat} {c : Value} {y : DataW H × List MemPlace} (h : DataW.trod enc Tryd.prog w base spare held fuel 3 [c] = some y) : ∃ n, c = .int .i64 n ∧ -9223372036854775808 ≤ n ∧ n ≤ 9223372036854775807 := by
  cases fuel with
  | zero => simp [DataW.trod] at h
  | succ fuel =>
    cases c <;> simp [DataW.trod, Tryd.underlying3] at h
    obtain ⟨⟨rfl, hw⟩, -⟩ := h
    refine ⟨_, rfl, ?_⟩
    simp [Lit.wf] at hw
    exact hw
theorem names_of_slice {fuel : Nat} {c : Value} {y : DataW H × List MemPlace} (h : DataW.trod enc Tryd.prog w base spare held fuel 22 [c] = some y) :
    ∃ (at0 : Option Addr) (cap : Nat) (ss : List ByteArray), c = .slice at0 ss.length cap ∧ RulesAt w at0 ss ∧ ss.length ≤ maxLen ∧ ∀ s ∈ ss, s.size ≤ maxLen := by
  rcases open_strings Tryd.underlying22 Tryd.underlying9 (by kernel_rfl) h with ⟨hc, -⟩ | ⟨a, len, cap, ss, hc, hb, hl, hm, hss, -, hcell, hsz⟩
  · obtain rfl := (List.cons.inj hc).1
    exact ⟨none, 0, [], rfl, ⟨fun i hi => absurd hi (Nat.not_lt_zero _), fun b off e => by cases e⟩, Nat.zero_le _, fun s hs => by cases hs⟩
  · obtain rfl := (List.cons.inj hc).1
    have hlen : len ≤ ss.length := by rw [hss]; split <;> omega
    have e : (ss.take len).length = len := by simp; omega
    have hsp : 0 < len → a = ⟨a.block, a.off, none⟩ := fun h0 => by
      have h1 := World.cell?_spot (hcell 0 (by omega))
      have e0 : a.add 0 = a := by simp [Addr.add]
      rw [e0] at h1
      obtain ⟨ab, ao, asp⟩ := a
      simp at h1
      rw [h1]
    refine ⟨some a, cap, ss.take len, by rw [e], ⟨fun i hi => ⟨a.block, a.off, by rw [← hsp (by omega)]⟩, fun b off hab i hi => ?_⟩, by omega, fun s hs => hsz s (List.mem_of_mem_take hs)⟩
    have hab' := Option.some.inj hab
    subst hab'
    rw [e] at hi
    have hc := hcell i (by omega)
    rw [Lib.add_plain] at hc
    rw [hc]
    have e1 : (ss.take len).getD i ⟨#[]⟩ = ss.getD i ByteArray.empty := by
      simp only [List.getD, List.getElem?_take, hi, if_true]
      rfl
    rw [e1]
set_option maxRecDepth 100000 in
/-- What stands behind an argument that is a description. -/
theorem open_ref {r : Reach} {b0 : Nat} {v : Value} {d : DataW H} {p : List MemPlace} (hv : Value.okWide Tryd.prog w r b0 24 v) (h : DataW.Trod enc Tryd.prog w base spare held 24 v d p) :
    ∃ (nl : Bool) (at0 : Option Addr) (cap : Nat) (ss : List ByteArray) (c q : Int) (f : Bool), v = .agg #[.bool nl, .slice at0 ss.length cap, .int .i64 c, .int .i64 q, .bool f] ∧ RulesAt w at0 ss ∧ ss.length ≤ maxLen ∧ (∀ s ∈ ss, s.size ≤ maxLen) ∧
      -9223372036854775808 ≤ c ∧ c ≤ 9223372036854775807 := by
  have hs := Tryd.underlying24
  have hC : Tryd.prog.cellsOf 24 = 5 := by kernel_rfl
  have cb : Tryd.prog.cellsOf 4 = 1 := by kernel_rfl
  have cs : Tryd.prog.cellsOf 22 = 1 := by kernel_rfl
  have ci : Tryd.prog.cellsOf 3 = 1 := by kernel_rfl
  obtain ⟨⟨l⟩, rfl, hsz⟩ := okWide_struct hs hv
  rw [hC] at hsz
  obtain ⟨v0, v1, v2, v3, v4, rfl⟩ : ∃ v0 v1 v2 v3 v4, l = [v0, v1, v2, v3, v4] := by
    match l, hsz with
    | [v0, v1, v2, v3, v4], _ => exact ⟨v0, v1, v2, v3, v4, rfl⟩
  obtain ⟨fuel, hf⟩ := h
  obtain ⟨xs, n, -, -, -, hlen, hg⟩ := DataW.trod_struct hs hf
  have hl5 : xs.length = 5 := hlen
  have hx : ∀ i, i < 5 → ∃ y, xs[i]? = some y := fun i hi => ⟨_, List.getElem?_eq_getElem (by omega)⟩
  obtain ⟨y0, e0⟩ := hx 0 (by omega)
  obtain ⟨y1, e1⟩ := hx 1 (by omega)
  obtain ⟨y2, e2⟩ := hx 2 (by omega)
  obtain ⟨y3, e3⟩ := hx 3 (by omega)
  obtain ⟨y4, e4⟩ := hx 4 (by omega)
  have g0 := hg 0 _ rfl
  have g1 := hg 1 _ rfl
  have g2 := hg 2 _ rfl
  have g3 := hg 3 _ rfl
  have g4 := hg 4 _ rfl
  rw [e0] at g0
  rw [e1] at g1
  rw [e2] at g2
  rw [e3] at g3
  rw [e4] at g4
  simp [Value.cells, cb, cs, ci] at g0 g1 g2 g3 g4
  obtain ⟨nl, rfl⟩ := bool_of g0
  obtain ⟨at0, cap, ss, rfl, hr, hl, hm⟩ := names_of_slice g1
  obtain ⟨c, rfl, hc0, hc1⟩ := int_of g2
  obtain ⟨q, rfl, -, -⟩ := int_of g3
  obtain ⟨f, rfl⟩ := bool_of g4
  exact ⟨nl, at0, cap, ss, c, q, f, rfl, hr, hl, hm, hc0, hc1⟩
end
theorem pow_row : ((begin Tryd.prog (fun _ _ => 0) default).world.heap[2]?).bind Obj.row? = some ((Array.replicate 20 (.int .u64 0)), 126) := by kernel_rfl
theorem pow_types : (Tryd.prog.cellTypes Tryd.prog.depth 126).map (fun ts => ts.all (· == 118)) = some true := by kernel_rfl
set_option maxRecDepth 100000 in
theorem tab_of {W : World} (h : W.ShapedOpen Tryd.prog) : ∃ T, Tab T W := by
  obtain ⟨cs, hh, hs, hr⟩ := h.1 2 _ 126 (of_decide_eq_true (by kernel_rfl)) pow_row
  obtain ⟨ts, hts, _, hall⟩ := hr (by kernel_rfl)
  have hty := pow_types
  rw [hts] at hty
  simp only [Option.map_some, Option.some.injEq, List.all_eq_true, beq_iff_eq] at hty
  rw [Array.size_replicate] at hs
  have key : ∀ i, i < 20 → ∃ z, W.cell? ⟨2, i, none⟩ = some (.int .u64 z) := fun i hi => by
    have hi' : i < cs.size := by omega
    have hcell : W.cell? ⟨2, i, none⟩ = some cs[i] := by simp [World.cell?, hh, hi']
    obtain ⟨u, hu, hok⟩ := hall i cs[i] (by simp [hi'])
    have hu' := hty u (List.mem_of_getElem? hu)
    rw [hu'] at hok
    rw [hcell]
    unfold Cell.ok at hok
    rw [Tryd.underlying118] at hok
    generalize cs[i] = v at hok ⊢
    cases v <;> simp at hok
    case int k' n => exact ⟨n, by rw [hok.1]⟩
  refine ⟨fun i => if hi : i < 20 then Classical.choose (key i hi) else 0, fun i hi => ?_⟩
  show W.cell? _ = some (.int .u64 (if hi : i < 20 then Classical.choose (key i hi) else 0))
  rw [dif_pos hi]
  exact Classical.choose_spec (key i hi)
end Go.Proofs.YtjkmbfpjkppmnaaDoor
