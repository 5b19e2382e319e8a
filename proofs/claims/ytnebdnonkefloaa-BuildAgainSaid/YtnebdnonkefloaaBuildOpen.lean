/- An argument that is a list of the reference's rules with items, opened, with what the reach says of its lengths. -/
import Derived.Test.YtnebdnonkefloaaGramOpen
import Derived.Test.YtnebdnonkefloaaBuildOwn
import Derived.SizedLaws
namespace Go.Proofs.Ytnebdnonkefloaa
open Go.ChangeShapes Go.WideShapes Go.RowKit Go.Deep Go.Joins
theorem weightsAll_mem {H : Type} {P : Program} {e : TypeId} : ∀ {l : List (DataW H)} {d : DataW H}, d ∈ l → ∀ n ∈ d.weights P e, n ∈ DataW.weightsAll P e l
  | d' :: r, d, hd, n, hn => by
    simp only [DataW.weightsAll, List.mem_append]
    rcases List.mem_cons.1 hd with rfl | h
    · exact Or.inl hn
    · exact Or.inr (weightsAll_mem h n hn)
theorem zip_fst_snd {α β : Type} : ∀ (ps : List (α × β)), (ps.map Prod.fst).zip (ps.map Prod.snd) = ps
  | [] => rfl
  | p :: r => by rw [List.map_cons, List.map_cons, List.zip_cons_cons, zip_fst_snd r]
/-- Rows of cells, one after the other, from the cells of each. -/
theorem rows_cells {α : Type} {w : World} {b off size : Nat} {f : α → List Value} (hs : 0 < size) (hf : ∀ x, (f x).length = size) (l : List α)
    (h : ∀ i x, l[i]? = some x → ∀ r u, (f x)[r]? = some u → w.cell? ⟨b, off + i * size + r, none⟩ = some u) : ∀ j u, (l.flatMap f)[j]? = some u → w.cell? ⟨b, off + j, none⟩ = some u := fun j u hj => by
  have hlen := flat_length f size hf l
  have hjl : j < l.length * size := by rw [← hlen]; exact (List.getElem?_eq_some_iff.1 hj).1
  have hi : j / size < l.length := (Nat.div_lt_iff_lt_mul hs).2 hjl
  have hr : j % size < size := Nat.mod_lt _ hs
  have hx : l[j / size]? = some l[j / size] := List.getElem?_eq_getElem hi
  have e : j / size * size + j % size = j := Nat.div_add_mod' j size
  have h1 := flat_at f size hf l (j / size) l[j / size] (j % size) hx hr
  rw [e, hj] at h1
  have := h _ _ hx _ _ h1.symm
  rw [Nat.add_assoc, e] at this
  exact this
section
variable {H : Type} {enc : TypeId × Value → H} {w : World} {base : Nat} {spare : Nat → Bool} {held : Bool}
set_option maxRecDepth 100000 in
theorem gritem_of {fuel : Nat} {cs : List Value} {y : DataW H × List MemPlace} (h : DataW.trod enc Try.prog w base spare held fuel 32 cs = some y) : ∃ x : PI, cs = itemC x := by
  have hs := Try.underlying32
  have hC : Try.prog.cellsOf 32 = 7 := by kernel_rfl
  have c1 : Try.prog.cellsOf 3 = 1 := by kernel_rfl
  have c3 : Try.prog.cellsOf 30 = 4 := by kernel_rfl
  obtain ⟨xs, n, -, -, hlen, hl, hg⟩ := DataW.trod_struct hs h
  rw [hC] at hlen
  obtain ⟨v0, v1, v2, v3, v4, v5, v6, rfl⟩ : ∃ v0 v1 v2 v3 v4 v5 v6, cs = [v0, v1, v2, v3, v4, v5, v6] := by
    match cs, hlen with
    | [v0, v1, v2, v3, v4, v5, v6], _ => exact ⟨v0, v1, v2, v3, v4, v5, v6, rfl⟩
  have hl2 : xs.length = 4 := hl
  have g0 := hg 0 _ rfl
  have g1 := hg 1 _ rfl
  have g2 := hg 2 _ rfl
  have g3 := hg 3 _ rfl
  rw [List.getElem?_eq_getElem (by omega)] at g0 g1 g2 g3
  simp [c1, c3] at g0 g1 g2 g3
  obtain ⟨op, rfl⟩ := gint_of g0
  obtain ⟨k, rfl⟩ := gint_of g1
  obtain ⟨r, rfl⟩ := gint_of g2
  obtain ⟨a, b, c, d, rfl, rfl, rfl, rfl⟩ := gset_of g3
  exact ⟨⟨op, k, r, a, b, c, d⟩, rfl⟩
theorem gritems_of {fuel : Nat} {c : Value} {y : DataW H × List MemPlace} (h : DataW.trod enc Try.prog w base spare held fuel 25 [c] = some y) : ∃ its, ItemsAt w c its ∧ ∀ B, (∀ n ∈ y.1.weights Try.prog 25, n ≤ B) → its.length ≤ B := by
  rcases open_slice Try.underlying25 h with ⟨hc, -⟩ | ⟨a, len, cap, m, n, D, Pl, hc, hb, hl, hm, hmm, rfl, hi⟩
  · obtain rfl := (List.cons.inj hc).1
    exact ⟨[], ⟨Nat.zero_le _, none, 0, rfl, Nat.le_refl _, .inl rfl⟩, fun B _ => Nat.zero_le _⟩
  · obtain rfl := (List.cons.inj hc).1
    have hlm : len ≤ m := by rw [hmm]; split <;> omega
    have hC : Try.prog.cellsOf 32 = 7 := by kernel_rfl
    have hby : Try.prog.bytesOf 32 = 56 := by kernel_rfl
    rw [hC] at hi
    obtain ⟨its, hrl, hrs⟩ := list_of (fun i (x : PI) => ∀ r u, (itemC x)[r]? = some u → w.cell? (a.add (i * 7 + r)) = some u) len (fun i hil => by
      obtain ⟨cs, hcs, ht⟩ := hi i (by omega)
      obtain ⟨x, rfl⟩ := gritem_of ht
      obtain ⟨-, -, hat⟩ := World.cells?_some hcs
      exact ⟨x, fun r u hu => by
        have := hat r ((List.getElem?_eq_some_iff.1 hu).1)
        rw [Go.Deep.add_add, hu] at this
        exact this⟩)
    refine ⟨its, ⟨by omega, some a, cap, by rw [hrl], by omega, ?_⟩, fun B hB => ?_⟩
    · rcases Nat.eq_zero_or_pos len with h0 | h0
      · left; omega
      · right
        obtain ⟨r0, hr0⟩ : ∃ r, its[0]? = some r := ⟨_, List.getElem?_eq_getElem (by omega)⟩
        have hsp := spot_of (by simpa using hrs 0 r0 hr0 0 _ rfl)
        refine ⟨a.block, a.off, by rw [← hsp], rows_cells (f := itemC) (size := 7) (by decide) (fun _ => rfl) its fun i x hx r u hu => ?_⟩
        have hh := hrs i x hx r u hu
        rw [hsp, Addr.add_lit] at hh
        rw [Nat.add_assoc]; exact hh
    · have := hB ((len + (m - len)) * 56) (by simp [DataW.weights, Try.underlying25, hby])
      omega
set_option maxRecDepth 100000 in
theorem grrule_of {fuel : Nat} {cs : List Value} {y : DataW H × List MemPlace} (h : DataW.trod enc Try.prog w base spare held fuel 27 cs = some y) : ∃ (q : PQ) (v : Value), cs = ruleQ (q, v) ∧ ItemsAt w v q.items ∧ ∀ B, (∀ n ∈ y.1.weights Try.prog 27, n ≤ B) → q.items.length ≤ B := by
  have hs := Try.underlying27
  have hC : Try.prog.cellsOf 27 = 2 := by kernel_rfl
  have c1 : Try.prog.cellsOf 9 = 1 := by kernel_rfl
  have c2 : Try.prog.cellsOf 25 = 1 := by kernel_rfl
  obtain ⟨y0, y1, n, rfl, hlen, g0, g1⟩ := trod_struct2 hs h
  rw [hC] at hlen
  obtain ⟨v0, v1, rfl⟩ : ∃ v0 v1, cs = [v0, v1] := by
    match cs, hlen with
    | [v0, v1], _ => exact ⟨v0, v1, rfl⟩
  simp [c1, c2] at g0 g1
  obtain ⟨s, rfl⟩ := gstr_of g0
  obtain ⟨its, hI, hB⟩ := gritems_of g1
  exact ⟨⟨s, its⟩, v1, rfl, hI, fun B hw => hB B fun n hn => hw n (by simp [DataW.weights, hs, DataW.weightsEach, hn])⟩
theorem grrules_of {fuel : Nat} {c : Value} {y : DataW H × List MemPlace} (h : DataW.trod enc Try.prog w base spare held fuel 22 [c] = some y) : ∃ l, QsAt w c l ∧ ∀ B, (∀ n ∈ y.1.weights Try.prog 22, n ≤ B) → l.length ≤ B ∧ ∀ q, q ∈ l → q.items.length ≤ B := by
  rcases open_slice Try.underlying22 h with ⟨hc, -⟩ | ⟨a, len, cap, m, n, D, Pl, hc, hb, hl, hm, hmm, rfl, hi⟩
  · obtain rfl := (List.cons.inj hc).1
    exact ⟨[], ⟨Nat.zero_le _, [], rfl, ⟨none, 0, rfl, Nat.le_refl _, .inl rfl⟩, fun j q u hq _ => by simp at hq⟩, fun B _ => ⟨Nat.zero_le _, fun q hq => by cases hq⟩⟩
  · obtain rfl := (List.cons.inj hc).1
    have hlm : len ≤ m := by rw [hmm]; split <;> omega
    have hC : Try.prog.cellsOf 27 = 2 := by kernel_rfl
    have hby : Try.prog.bytesOf 27 = 40 := by kernel_rfl
    rw [hC] at hi
    obtain ⟨ps, hrl, hrs⟩ := list_of (fun i (p : PQ × Value) => (∀ r u, (ruleQ p)[r]? = some u → w.cell? (a.add (i * 2 + r)) = some u) ∧ ItemsAt w p.2 p.1.items ∧ ∀ B, (∀ n ∈ (D i).weights Try.prog 27, n ≤ B) → p.1.items.length ≤ B) len (fun i hil => by
      obtain ⟨cs, hcs, ht⟩ := hi i (by omega)
      obtain ⟨q, v, rfl, hI, hw⟩ := grrule_of ht
      obtain ⟨-, -, hat⟩ := World.cells?_some hcs
      exact ⟨(q, v), fun r u hu => by
        have := hat r ((List.getElem?_eq_some_iff.1 hu).1)
        rw [Go.Deep.add_add, hu] at this
        exact this, hI, hw⟩)
    have hml : (ps.map Prod.fst).length = len := by rw [List.length_map, hrl]
    refine ⟨ps.map Prod.fst, ⟨by omega, ps.map Prod.snd, by rw [List.length_map, List.length_map], ⟨some a, cap, by rw [hml], by omega, ?_⟩, fun j q u hq hu => ?_⟩, fun B hB => ⟨?_, fun q hq => ?_⟩⟩
    · rcases Nat.eq_zero_or_pos len with h0 | h0
      · left; omega
      · right
        obtain ⟨r0, hr0⟩ : ∃ r, ps[0]? = some r := ⟨_, List.getElem?_eq_getElem (by omega)⟩
        have hsp := spot_of (by simpa using (hrs 0 r0 hr0).1 0 _ rfl)
        rw [zip_fst_snd]
        refine ⟨a.block, a.off, by rw [← hsp], rows_cells (f := ruleQ) (size := 2) (by decide) (fun _ => rfl) ps fun i x hx r u hu => ?_⟩
        have hh := (hrs i x hx).1 r u hu
        rw [hsp, Addr.add_lit] at hh
        rw [Nat.add_assoc]; exact hh
    · rw [List.getElem?_map] at hq hu
      cases hp : ps[j]? with
      | none => rw [hp] at hq; cases hq
      | some p =>
        rw [hp] at hq hu
        obtain rfl := Option.some.inj hq
        obtain rfl := Option.some.inj hu
        exact (hrs j p hp).2.1
    · have := hB ((len + (m - len)) * 40) (by simp [DataW.weights, Try.underlying22, hby])
      omega
    · obtain ⟨p, hp, rfl⟩ := List.mem_map.1 hq
      obtain ⟨j, hj⟩ := List.getElem?_of_mem hp
      have hjl : j < len := by have := (List.getElem?_eq_some_iff.1 hj).1; omega
      exact (hrs j p hj).2.2 B fun n hn => hB n (by
        simp only [DataW.weights, Try.underlying22, List.mem_cons, List.mem_append]
        exact .inr (.inl (weightsAll_mem (List.mem_map.2 ⟨j, List.mem_range.2 hjl, rfl⟩) n hn)))
theorem open_qs {r : Reach} {b0 : Nat} {v : Value} {d : DataW H} {p : List MemPlace} (hv : Value.okWide Try.prog w r b0 22 v) (h : DataW.Trod enc Try.prog w base spare held 22 v d p) :
    ∃ l, QsAt w v l ∧ ∀ B, (∀ n ∈ d.weights Try.prog 22, n ≤ B) → l.length ≤ B ∧ ∀ q, q ∈ l → q.items.length ≤ B := by
  obtain ⟨fuel, hf⟩ := h
  have hcell : v.cells = #[v] := by
    unfold Value.okWide at hv
    rw [Try.underlying22] at hv
    simp only [Cell.okWide] at hv
    cases v <;> first | rfl | simp [Try.underlying22, Cell.ok] at hv
  rw [hcell] at hf
  exact grrules_of hf
end
end Go.Proofs.Ytnebdnonkefloaa
