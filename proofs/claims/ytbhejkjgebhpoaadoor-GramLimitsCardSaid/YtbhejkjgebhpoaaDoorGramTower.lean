/- The grammars of the law GramLimits: towers of options, many empty nodes. No walk. -/
import Derived.Test.YtbhejkjgebhpoaaDoorGramClone
import Derived.Test.YtbhejkjgebhpoaaDoorGramChk
namespace Go.Proofs.YtbhejkjgebhpoaaDoor
open Go.RowKit
def towN (i : Nat) : PN := if i = 0 then ⟨0, [], 0, 0, 0, 0, 0⟩ else ⟨7, [(i : Int) - 1], 0, 0, 0, 0, 0⟩
def towL (k : Nat) : List PN := (List.range k).map towN
theorem towL_len (k : Nat) : (towL k).length = k := by unfold towL; rw [List.length_map, List.length_range]
theorem towL_snoc (k : Nat) : towL (k + 1) = towL k ++ [towN k] := by unfold towL; rw [List.range_succ, List.map_append]; rfl
theorem towL_at {k j : Nat} {n : PN} (h : (towL k)[j]? = some n) : n = towN j := by
  have hl := (List.getElem?_eq_some_iff.1 h).1
  rw [towL_len] at hl
  unfold towL at h
  rw [List.getElem?_map, List.getElem?_range hl] at h
  exact (Option.some.inj h).symm
set_option maxRecDepth 100000 in
theorem tow200 : chkL [⟨⟨#[65]⟩, 199⟩] (towL 200) = .ok := by kernel_rfl
set_option maxRecDepth 100000 in
theorem tow201 : chkL [⟨⟨#[65]⟩, 200⟩] (towL 201) = .deep 200 := by kernel_rfl
abbrev zN : PN := ⟨0, [], 0, 0, 0, 0, 0⟩
theorem fbad_never {p : Nat → Bool} : ∀ (m i : Nat), (∀ j, p j = false) → fbad p m i = none
  | 0, _, _ => rfl
  | m + 1, i, h => by rw [fbad_no (h i)]; exact fbad_never m (i + 1) h
theorem rep_many (m : Nat) (h : 10000 < m) : chkL [⟨⟨#[65]⟩, 0⟩] (List.replicate m zN) = .large := if_pos (.inr (by rw [List.length_replicate]; exact h))
theorem name_A : fbad (nameBad [⟨⟨#[65]⟩, 0⟩]) 1 0 = none := by kernel_rfl
theorem rep_some (m : Nat) (h : m ≤ 10000) (h1 : 1 < m) : chkL [⟨⟨#[65]⟩, 0⟩] (List.replicate m zN) = .order := by
  unfold chkL
  rw [if_neg (by rw [List.length_replicate]; simp; omega), if_neg (by decide)]
  show (match fbad (nameBad [⟨⟨#[65]⟩, 0⟩]) 1 0 with
    | some i => Chk.rules i
    | none => _) = _
  rw [name_A]
  dsimp only
  have h2 : ∀ j, nodeBad (List.replicate m zN) [(⟨⟨#[65]⟩, 0⟩ : PR)].length j = false := fun j => by
    unfold nodeBad
    rw [List.getElem?_replicate]
    split
    · rename_i n hn
      split at hn
      · obtain rfl := Option.some.inj hn
        rfl
      · cases hn
    · rfl
  rw [fbad_never _ _ h2]
  dsimp only
  rw [if_neg]
  show ¬ (if (0 : Int) ≤ -1 ∨ ((List.replicate m zN).length : Int) ≤ 0 ∨ exL (List.replicate m zN) 0 ≠ -1 then false else ordR (List.replicate m zN) [] 0) = true
  split
  · exact Bool.false_ne_true
  · show ¬ ((0 : Int) == ((List.replicate m zN).length : Int) - 1) = true
    rw [List.length_replicate, beq_iff_eq]
    omega
/-- The tower as it grows: the law's own rows. -/
def TowAt (w0 : World) (k : Nat) (wr : World) : Prop := ∃ (v : Value) (qs : List Value), Below w0.heap.size w0 wr ∧ wr.heap[w0.heap.size]? = some (.cells #[.string ⟨#[65]⟩, .int .i64 0] 41 (0, 0)) ∧
  IsGram wr (w0.heap.size + 2) (.slice (some ⟨w0.heap.size, 0, none⟩) 1 1) v ∧ wr.ownsRow w0.heap.size 47 7 v k (nodesC ((towL k).zip qs)) ∧ qs.length = k ∧
  ∀ (j : Nat) (q : Value), qs[j]? = some q → wr.ownsRow w0.heap.size 3 1 q (towN j).kids.length (intsV (towN j).kids)
theorem nodesC_snoc {ns : List PN} {qs : List Value} (h : qs.length = ns.length) (n : PN) (q : Value) : nodesC ((ns ++ [n]).zip (qs ++ [q])) = nodesC (ns.zip qs) ++ nodeC (n, q) := by
  rw [List.zip_append h.symm]
  unfold nodesC
  rw [List.flatMap_append]
  simp
theorem own_kept {w w' : World} {base n : Nat} {e e' : TypeId} {size : Nat} {v : Value} {xs : List Value} {r : Option Nat} (h : w.ownsRow base e size v n xs) (hg : w.grownBy w' r) (hr : ∀ g, r = some g → ∃ c fz, w.heap[g]? = some (.cells c e' fz)) (he : e ≠ e') : w'.ownsRow base e size v n xs := by
  refine h.kept hg ?_
  cases r with
  | none => cases hv : v.ownBlock with
    | none => exact .inl rfl
    | some b => exact .inr (by simp)
  | some g => exact .inr (row_ne h (hr g rfl) he)
theorem TowAt.step {w0 wr w' : World} {k : Nat} (hk : 0 < k) {v : Value} {qs : List Value} (h1 : Below w0.heap.size w0 wr) (h2 : wr.heap[w0.heap.size]? = some (.cells #[.string ⟨#[65]⟩, .int .i64 0] 41 (0, 0)))
    (h3 : IsGram wr (w0.heap.size + 2) (.slice (some ⟨w0.heap.size, 0, none⟩) 1 1) v) (h4 : wr.ownsRow w0.heap.size 47 7 v k (nodesC ((towL k).zip qs))) (h5 : qs.length = k)
    (h6 : ∀ (j : Nat) (q : Value), qs[j]? = some q → wr.ownsRow w0.heap.size 3 1 q (towN j).kids.length (intsV (towN j).kids)) {v' : Value} {o2 : Obj}
    (hown : w'.ownsRow w0.heap.size 47 7 v' (k + 1) (nodesC ((towL k).zip qs) ++ [.int .i64 7, .slice (some ⟨wr.heap.size, 0, none⟩) 1 1, .int .i64 0, .int .u64 0, .int .u64 0, .int .u64 0, .int .u64 0]))
    (hg : ((wr.alloc (.cells #[.int .i64 ((k : Int) - 1)] 3)).alloc o2).grownBy w' v.ownBlock) : TowAt w0 (k + 1) (w'.setCell ⟨w0.heap.size + 2, 1, none⟩ v') := by
  have hnk : nodeC (towN k, .slice (some ⟨wr.heap.size, 0, none⟩) 1 1) = [.int .i64 7, .slice (some ⟨wr.heap.size, 0, none⟩) 1 1, .int .i64 0, .int .u64 0, .int .u64 0, .int .u64 0, .int .u64 0] := by unfold towN; rw [if_neg (by omega)]; rfl
  rw [← hnk] at hown
  have hb := two_new wr (.cells #[.int .i64 ((k : Int) - 1)] 3) o2
  have hgl : w0.heap.size + 2 < wr.heap.size := (Array.getElem?_eq_some_iff.1 h3).1
  have old : ∀ b, b < wr.heap.size → ((wr.alloc (.cells #[.int .i64 ((k : Int) - 1)] 3)).alloc o2).heap[b]? = wr.heap[b]? := fun b hl => hb.block b hl
  have kind : ∀ g, v.ownBlock = some g → ∃ c fz, ((wr.alloc (.cells #[.int .i64 ((k : Int) - 1)] 3)).alloc o2).heap[g]? = some (.cells c 47 fz) := fun g hv => by
    obtain ⟨c, fz, hc⟩ := Lib.ownsRow_kind h4 g hv
    exact ⟨c, fz, by rw [old g (Array.getElem?_eq_some_iff.1 hc).1]; exact hc⟩
  have keep : ∀ b, b < wr.heap.size → (∀ c fz, wr.heap[b]? ≠ some (.cells c 47 fz)) → w'.heap[b]? = wr.heap[b]? := fun b hl hn => by
    rw [hg.block b (Nat.lt_of_lt_of_le hl hb.size) (fun e => by
      obtain ⟨c, fz, hc⟩ := kind b e.symm
      rw [old b hl] at hc
      exact hn c fz hc), old b hl]
  have hgr : w'.heap[w0.heap.size + 2]? = some (.cells #[.slice (some ⟨w0.heap.size, 0, none⟩) 1 1, v] 25 (0, 0)) := by
    rw [keep _ hgl (fun c fz e => by
      unfold IsGram at h3
      rw [h3] at e
      injection e with e
      injection e with _ e
      exact absurd e (by decide))]
    exact h3
  have hgk : ∃ c fz, w'.heap[w0.heap.size + 2]? = some (.cells c 25 fz) := ⟨_, _, hgr⟩
  have hbw : Below w0.heap.size w0 w' := by
    refine (h1.trans (hb.mono (by omega))).grown hg (by have := hb.size; omega) (fun g hv => (h4.lt g hv).1)
  refine ⟨v', qs ++ [.slice (some ⟨wr.heap.size, 0, none⟩) 1 1], hbw.setCell (p := ⟨w0.heap.size + 2, 1, none⟩) (Nat.le_add_right _ _) _, ?_, ?_, ?_, by rw [List.length_append, h5]; rfl, fun j q hq => ?_⟩
  · rw [heap_setCell_other _ _ _ _ (by show w0.heap.size ≠ w0.heap.size + 2; omega), keep _ (by omega) (fun c fz e => by
      rw [h2] at e
      injection e with e
      injection e with _ e
      exact absurd e (by decide))]
    exact h2
  · unfold IsGram
    rw [heap_setCell_same _ _ _ _ _ _ hgr]
    rfl
  · have := ownsRow_setCell_other hown (a := ⟨w0.heap.size + 2, 1, none⟩) (row_ne hown hgk (by decide)) v'
    rw [towL_snoc, nodesC_snoc (by rw [h5, towL_len])]
    exact this
  · rw [List.getElem?_append] at hq
    split at hq
    · rename_i hj
      have a1 := ownsRow_grown (h6 j q hq) hb
      have a2 := own_kept a1 hg kind (by decide)
      exact ownsRow_setCell_other a2 (row_ne a2 hgk (by decide)) _
    · rename_i hj
      have hjk : j = k := by
        have := (List.getElem?_eq_some_iff.1 hq).1
        simp at this
        omega
      subst hjk
      rw [h5, Nat.sub_self] at hq
      obtain rfl := Option.some.inj hq
      have hn : towN j = ⟨7, [(j : Int) - 1], 0, 0, 0, 0, 0⟩ := by unfold towN; rw [if_neg (by omega)]
      rw [hn]
      have a0 : ((wr.alloc (.cells #[.int .i64 ((j : Int) - 1)] 3)).alloc o2).ownsRow w0.heap.size 3 1 (.slice (some ⟨wr.heap.size, 0, none⟩) 1 1) 1 [.int .i64 ((j : Int) - 1)] := by
        refine ⟨rfl, .inr ⟨wr.heap.size, 1, #[.int .i64 ((j : Int) - 1)], rfl, by omega, ?_, Nat.le_refl _, by decide, rfl, rfl⟩⟩
        rw [Below.heap_alloc _ _ _ (by rw [World.size_alloc]; exact Nat.lt_succ_self _)]
        exact heap_alloc_new wr _
      have a2 := own_kept a0 hg kind (by decide)
      exact ownsRow_setCell_other a2 (row_ne a2 hgk (by decide)) _
theorem own_slice {w : World} {base : Nat} {e : TypeId} {size n : Nat} {v : Value} {xs : List Value} (h : w.ownsRow base e size v n xs) : ∃ a c, v = .slice a n c := by
  rcases h.2 with ⟨e, e0⟩ | ⟨g, cap, cur, e, -⟩
  · exact ⟨none, 0, by rw [e, e0]⟩
  · exact ⟨_, _, e⟩
theorem isGram0 {W : World} {g : Nat} {x y : Value} (h : IsGram W g x y) : W.cell? ⟨g, 0, none⟩ = some x := by unfold IsGram at h; simp [World.cell?, h]
theorem isGram1 {W : World} {g : Nat} {x y : Value} (h : IsGram W g x y) : W.cell? ⟨g, 1, none⟩ = some y := by unfold IsGram at h; simp [World.cell?, h]
theorem isGramF {W : World} {g : Nat} {x y : Value} (h : IsGram W g x y) (o : Nat) : W.frozen? ⟨g, o, none⟩ = false := by unfold IsGram at h; simp [World.frozen?, h]
theorem ruleF {W : World} {g : Nat} {c : Array Value} {t : TypeId} (h : W.heap[g]? = some (.cells c t (0, 0))) (o : Nat) : W.frozen? ⟨g, o, none⟩ = false := by simp [World.frozen?, h]
theorem tow_gram {wr w' : World} {G base k : Nat} {x v : Value} {xs : List Value} {o1 o2 : Obj} (h3 : IsGram wr G x v) (h4 : wr.ownsRow base 47 7 v k xs) (hg : ((wr.alloc o1).alloc o2).grownBy w' v.ownBlock) : IsGram w' G x v := by
  have hb := two_new wr o1 o2
  have hl : G < wr.heap.size := (Array.getElem?_eq_some_iff.1 h3).1
  have h0 : ((wr.alloc o1).alloc o2).heap[G]? = wr.heap[G]? := hb.block G hl
  unfold IsGram
  rw [hg.block G (Nat.lt_of_lt_of_le hl hb.size) (fun e => by
    obtain ⟨c, fz, hc⟩ := Lib.ownsRow_kind h4 G e.symm
    unfold IsGram at h3
    rw [h3] at hc
    injection hc with hc
    injection hc with _ hc
    exact absurd hc (by decide)), h0]
  exact h3
theorem TowAt.start (w0 : World) : TowAt w0 1 (((w0.alloc (.cells #[.string ⟨#[65]⟩, .int .i64 0] 41)).alloc (.cells #[.int .i64 0, .slice none 0 0, .int .i64 0, .int .u64 0, .int .u64 0, .int .u64 0, .int .u64 0] 47)).alloc (.cells #[.slice (some ⟨w0.heap.size, 0, none⟩) 1 1, .slice (some ⟨w0.heap.size + 1, 0, none⟩) 1 1] 25)) := by
  refine ⟨_, [.slice none 0 0], (two_new w0 _ _).alloc (by simp; omega) _, ?_, ?_, ⟨rfl, .inr ⟨w0.heap.size + 1, 1, #[.int .i64 0, .slice none 0 0, .int .i64 0, .int .u64 0, .int .u64 0, .int .u64 0, .int .u64 0], rfl, Nat.le_succ _, ?_, Nat.le_refl _, by decide, rfl, rfl⟩⟩, rfl, fun j q hq => ?_⟩
  · rw [Below.heap_alloc _ _ _ (by simp; omega), Below.heap_alloc _ _ _ (by simp)]
    exact heap_alloc_new w0 _
  · have := heap_alloc_new ((w0.alloc (.cells #[.string ⟨#[65]⟩, .int .i64 0] 41)).alloc (.cells #[.int .i64 0, .slice none 0 0, .int .i64 0, .int .u64 0, .int .u64 0, .int .u64 0, .int .u64 0] 47)) (.cells #[.slice (some ⟨w0.heap.size, 0, none⟩) 1 1, .slice (some ⟨w0.heap.size + 1, 0, none⟩) 1 1] 25)
    rw [World.size_alloc, World.size_alloc] at this
    exact this
  · rw [Below.heap_alloc _ _ _ (by simp)]
    have := heap_alloc_new (w0.alloc (.cells #[.string ⟨#[65]⟩, .int .i64 0] 41)) (.cells #[.int .i64 0, .slice none 0 0, .int .i64 0, .int .u64 0, .int .u64 0, .int .u64 0, .int .u64 0] 47)
    rw [World.size_alloc] at this
    exact this
  · match j, hq with
    | 0, hq =>
      obtain rfl := Option.some.inj hq
      exact World.ownsRow_nil _ _ _ _
    | j + 1, hq => cases hq
/-- The tower's rows, read as a grammar. -/
theorem TowAt.read {w0 W : World} {k : Nat} {v : Value} {qs : List Value} (hk : k ≤ 1000) (h4 : W.ownsRow w0.heap.size 47 7 v k (nodesC ((towL k).zip qs))) (h5 : qs.length = k)
    (h6 : ∀ (j : Nat) (q : Value), qs[j]? = some q → W.ownsRow w0.heap.size 3 1 q (towN j).kids.length (intsV (towN j).kids)) : NodesAt W v (towL k) := by
  refine NodesAt.of_own (base := w0.heap.size) (qs := qs) (by rw [towL_len]; exact h4) (by rw [towL_len, h5]) (by rw [towL_len]; unfold maxLen; omega) (fun i n q hn hq => ?_)
  obtain rfl := towL_at hn
  refine ⟨IntsAt.of_own (h6 i q hq), ?_⟩
  unfold towN maxLen
  split <;> simp
theorem rules_one {W : World} {b : Nat} {r : PR} (h : W.heap[b]? = some (.cells #[.string r.name, .int .i64 r.root] 41 (0, 0))) : RulesIn W (.slice (some ⟨b, 0, none⟩) 1 1) [r] := by
  refine ⟨by unfold maxLen; simp, _, 1, rfl, .inr ⟨b, 0, rfl, fun i x hx => ?_⟩⟩
  match i, hx with
  | 0, hx =>
    obtain rfl := Option.some.inj hx
    exact ⟨by simp [World.cell?, h], by simp [World.cell?, h]⟩
  | i + 1, hx => cases hx
/-- The tower with its root set. -/
theorem tow_root {w0 wr : World} {k : Nat} (hk : k ≤ 1000) {v : Value} {qs : List Value} (h2 : wr.heap[w0.heap.size]? = some (.cells #[.string ⟨#[65]⟩, .int .i64 0] 41 (0, 0)))
    (h3 : IsGram wr (w0.heap.size + 2) (.slice (some ⟨w0.heap.size, 0, none⟩) 1 1) v) (h4 : wr.ownsRow w0.heap.size 47 7 v k (nodesC ((towL k).zip qs))) (h5 : qs.length = k)
    (h6 : ∀ (j : Nat) (q : Value), qs[j]? = some q → wr.ownsRow w0.heap.size 3 1 q (towN j).kids.length (intsV (towN j).kids)) (x : Int) :
    IsGram (wr.setCell ⟨w0.heap.size, 1, none⟩ (.int .i64 x)) (w0.heap.size + 2) (.slice (some ⟨w0.heap.size, 0, none⟩) 1 1) v ∧ RulesIn (wr.setCell ⟨w0.heap.size, 1, none⟩ (.int .i64 x)) (.slice (some ⟨w0.heap.size, 0, none⟩) 1 1) [⟨⟨#[65]⟩, x⟩] ∧ NodesAt (wr.setCell ⟨w0.heap.size, 1, none⟩ (.int .i64 x)) v (towL k) := by
  have hk2 : ∃ c fz, wr.heap[w0.heap.size]? = some (.cells c 41 fz) := ⟨_, _, h2⟩
  refine ⟨?_, rules_one ?_, TowAt.read (w0 := w0) hk (ownsRow_setCell_other h4 (row_ne h4 hk2 (by decide)) _) h5 (fun j q hq => ownsRow_setCell_other (h6 j q hq) (row_ne (h6 j q hq) hk2 (by decide)) _)⟩
  · unfold IsGram
    rw [heap_setCell_other _ _ _ _ (by show w0.heap.size + 2 ≠ w0.heap.size; omega)]
    exact h3
  · rw [heap_setCell_same _ _ _ _ _ _ h2]
    rfl
theorem made_at (z : Array Value) (n p : Nat) (h : p < n) : (madeCells z n)[p]? = some (z[p % z.size]!) := by
  unfold madeCells
  rw [Array.getElem?_map, Array.getElem?_eq_getElem (by rw [Array.size_range]; exact h), Array.getElem_range]
  rfl
abbrev zC : Array Value := #[.int .i64 0, .slice none 0 0, .int .i64 0, .int .u64 0, .int .u64 0, .int .u64 0, .int .u64 0]
/-- Empty nodes, as they come from make. -/
theorem nodes_made {W : World} {B m : Nat} (hm : m ≤ 1000000) (h : W.heap[B]? = some (.cells (madeCells zC (m * 7)) 47 (0, 0))) : NodesAt W (.slice (some ⟨B, 0, none⟩) m m) (List.replicate m zN) := by
  have hc : ∀ i j, i < m → j < 7 → W.cell? ⟨B, 0 + i * 7 + j, none⟩ = some (zC[j]!) := fun i j hi hj => by
    unfold World.cell?
    dsimp only
    rw [h]
    show (madeCells zC (m * 7))[0 + i * 7 + j]? = _
    rw [made_at _ _ _ (by omega)]
    show some (zC[(0 + i * 7 + j) % 7]!) = _
    rw [show (0 + i * 7 + j) % 7 = j by omega]
  refine ⟨by rw [List.length_replicate]; unfold maxLen; omega, _, m, by rw [List.length_replicate], .inr ⟨B, 0, rfl, fun i n hn => ?_⟩⟩
  rw [List.getElem?_replicate] at hn
  split at hn
  · rename_i hi
    obtain rfl := Option.some.inj hn
    exact ⟨_, hc i 0 hi (by decide), hc i 1 hi (by decide), hc i 2 hi (by decide), hc i 3 hi (by decide), hc i 4 hi (by decide), hc i 5 hi (by decide), hc i 6 hi (by decide), ⟨none, 0, rfl, .inl rfl⟩, Nat.zero_le _⟩
  · cases hn
/-- The grammar with many nodes. -/
theorem many_root {s m : Nat} {wr : World} (hm : m ≤ 1000000) {v : Value} (h2 : wr.heap[s]? = some (.cells #[.string ⟨#[65]⟩, .int .i64 0] 41 (0, 0))) (h3 : IsGram wr (s + 2) (.slice (some ⟨s, 0, none⟩) 1 1) v) :
    IsGram ((wr.alloc (.cells (madeCells zC (m * 7)) 47)).setCell ⟨s + 2, 1, none⟩ (.slice (some ⟨wr.heap.size, 0, none⟩) m m)) (s + 2) (.slice (some ⟨s, 0, none⟩) 1 1) (.slice (some ⟨wr.heap.size, 0, none⟩) m m) ∧
    RulesIn ((wr.alloc (.cells (madeCells zC (m * 7)) 47)).setCell ⟨s + 2, 1, none⟩ (.slice (some ⟨wr.heap.size, 0, none⟩) m m)) (.slice (some ⟨s, 0, none⟩) 1 1) [⟨⟨#[65]⟩, 0⟩] ∧
    NodesAt ((wr.alloc (.cells (madeCells zC (m * 7)) 47)).setCell ⟨s + 2, 1, none⟩ (.slice (some ⟨wr.heap.size, 0, none⟩) m m)) (.slice (some ⟨wr.heap.size, 0, none⟩) m m) (List.replicate m zN) := by
  have hg : s + 2 < wr.heap.size := (Array.getElem?_eq_some_iff.1 h3).1
  have h3' : (wr.alloc (.cells (madeCells zC (m * 7)) 47)).heap[s + 2]? = some (.cells #[.slice (some ⟨s, 0, none⟩) 1 1, v] 25 (0, 0)) := by rw [Below.heap_alloc _ _ _ hg]; exact h3
  refine ⟨?_, rules_one ?_, nodes_made hm ?_⟩
  · unfold IsGram
    rw [heap_setCell_same _ _ _ _ _ _ h3']
    rfl
  · rw [heap_setCell_other _ _ _ _ (by show s ≠ s + 2; omega), Below.heap_alloc _ _ _ (by omega)]
    exact h2
  · rw [heap_setCell_other _ _ _ _ (by show wr.heap.size ≠ s + 2; omega)]
    exact heap_alloc_new wr _
end Go.Proofs.YtbhejkjgebhpoaaDoor
