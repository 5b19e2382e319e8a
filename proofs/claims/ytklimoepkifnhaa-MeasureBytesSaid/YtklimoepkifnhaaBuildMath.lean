/- Items in prefix order as plain lists: the nodes of one expression (as the reference takes them), how many items it has (as the program counts them), the items of a node, and that each way leads back. No walk. -/
import Derived.Test.YtklimoepkifnhaaGramOrd
namespace Go.Proofs.Ytklimoepkifnhaa
/-- An item: its kind, the number of its kids, its rule, the four words of its set. -/
structure PI where
  op : Int
  kids : Int
  rule : Int
  s0 : Int
  s1 : Int
  s2 : Int
  s3 : Int
/-- A rule with its items. -/
structure PQ where
  name : ByteArray
  items : List PI
theorem PI.eq_iff (n m : PI) : (n.op = m.op ∧ n.kids = m.kids ∧ n.rule = m.rule ∧ n.s0 = m.s0 ∧ n.s1 = m.s1 ∧ n.s2 = m.s2 ∧ n.s3 = m.s3) ↔ n = m := by
  cases n; cases m; simp
instance : DecidableEq PI := fun n m => decidable_of_iff _ (PI.eq_iff n m)
theorem PQ.eq_iff (n m : PQ) : (n.name = m.name ∧ n.items = m.items) ↔ n = m := by
  cases n; cases m; simp
instance : DecidableEq PQ := fun n m => decidable_of_iff _ (PQ.eq_iff n m)
def PI.node (x : PI) (ks : List Int) : PN := ⟨x.op, ks, x.rule, x.s0, x.s1, x.s2, x.s3⟩
def PN.item (n : PN) : PI := ⟨n.op, n.kids.length, n.rule, n.s0, n.s1, n.s2, n.s3⟩
theorem PN.item_node (n : PN) : n.item.node n.kids = n := rfl
theorem PI.node_item (x : PI) (ks : List Int) (h : (ks.length : Int) = x.kids) : (x.node ks).item = x := by
  cases x; simp only [PI.node, PN.item] at *; rw [h]
/-- So many expressions, one after the other, with the indices of their nodes. -/
def kidsF (g : List PN → List PI → Option (List PN × List PI)) : Nat → List PN → List PI → List Int → Option (List PN × List PI × List Int)
  | 0, ns, l, ks => some (ns, l, ks)
  | k + 1, ns, l, ks => match g ns l with
    | none => none
    | some y => kidsF g k y.1 y.2 (ks ++ [(y.1.length : Int) - 1])
/-- One expression: the nodes with those before them, and the items that are left. -/
def oneF : Nat → List PN → List PI → Option (List PN × List PI)
  | 0, _, _ => none
  | _ + 1, _, [] => none
  | f + 1, ns, x :: r => if x.kids < 0 then none else match kidsF (oneF f) x.kids.toNat ns r [] with
    | none => none
    | some y => some (y.1 ++ [x.node y.2.2], y.2.1)
def oneL (ns : List PN) (l : List PI) : Option (List PN × List PI) := oneF l.length ns l
theorem kidsF_zero (g : List PN → List PI → Option (List PN × List PI)) (ns : List PN) (l : List PI) (ks : List Int) : kidsF g 0 ns l ks = some (ns, l, ks) := rfl
theorem kidsF_none {g : List PN → List PI → Option (List PN × List PI)} {k : Nat} {ns : List PN} {l : List PI} {ks : List Int} (h : g ns l = none) : kidsF g (k + 1) ns l ks = none := by
  show (match g ns l with | none => none | some y => kidsF g k y.1 y.2 (ks ++ [(y.1.length : Int) - 1])) = none
  rw [h]
theorem kidsF_some {g : List PN → List PI → Option (List PN × List PI)} {k : Nat} {ns ns' : List PN} {l l' : List PI} {ks : List Int} (h : g ns l = some (ns', l')) : kidsF g (k + 1) ns l ks = kidsF g k ns' l' (ks ++ [(ns'.length : Int) - 1]) := by
  show (match g ns l with | none => none | some y => kidsF g k y.1 y.2 (ks ++ [(y.1.length : Int) - 1])) = _
  rw [h]
theorem oneF_neg {f : Nat} {ns : List PN} {x : PI} {r : List PI} (h : x.kids < 0) : oneF (f + 1) ns (x :: r) = none := if_pos h
theorem oneF_none {f : Nat} {ns : List PN} {x : PI} {r : List PI} (h : kidsF (oneF f) x.kids.toNat ns r [] = none) : oneF (f + 1) ns (x :: r) = none := by
  show (if x.kids < 0 then none else match kidsF (oneF f) x.kids.toNat ns r [] with | none => none | some y => some (y.1 ++ [x.node y.2.2], y.2.1)) = none
  rw [h]; simp
theorem oneF_some {f : Nat} {ns ns' : List PN} {x : PI} {r r' : List PI} {ks : List Int} (h0 : ¬ x.kids < 0) (h : kidsF (oneF f) x.kids.toNat ns r [] = some (ns', r', ks)) : oneF (f + 1) ns (x :: r) = some (ns' ++ [x.node ks], r') := by
  show (if x.kids < 0 then none else match kidsF (oneF f) x.kids.toNat ns r [] with | none => none | some y => some (y.1 ++ [x.node y.2.2], y.2.1)) = _
  rw [if_neg h0, h]
/-- What a result of oneF says of its parts. -/
theorem oneF_inv {f : Nat} {ns ns' : List PN} {l l' : List PI} (h : oneF f ns l = some (ns', l')) : ∃ g x r ns1 ks, f = g + 1 ∧ l = x :: r ∧ ¬ x.kids < 0 ∧ kidsF (oneF g) x.kids.toNat ns r [] = some (ns1, l', ks) ∧ ns' = ns1 ++ [x.node ks] := by
  match f, l, h with
  | 0, _, h => cases h
  | _ + 1, [], h => cases h
  | g + 1, x :: r, h =>
    by_cases h0 : x.kids < 0
    · rw [oneF_neg h0] at h; cases h
    · cases hk : kidsF (oneF g) x.kids.toNat ns r [] with
      | none => rw [oneF_none hk] at h; cases h
      | some y =>
        obtain ⟨a, b, c⟩ := y
        rw [oneF_some h0 hk] at h
        injection h with h
        injection h with h1 h2
        subst h1 h2
        exact ⟨g, x, r, a, c, rfl, rfl, h0, hk, rfl⟩
theorem kidsF_inv {g : List PN → List PI → Option (List PN × List PI)} {k : Nat} {ns : List PN} {l : List PI} {ks : List Int} {y : List PN × List PI × List Int} (h : kidsF g (k + 1) ns l ks = some y) : ∃ ns' l', g ns l = some (ns', l') ∧ kidsF g k ns' l' (ks ++ [(ns'.length : Int) - 1]) = some y := by
  cases hg : g ns l with
  | none => rw [kidsF_none hg] at h; cases h
  | some z =>
    obtain ⟨a, b⟩ := z
    rw [kidsF_some hg] at h
    exact ⟨a, b, rfl, h⟩
theorem kidsF_cut {g : List PN → List PI → Option (List PN × List PI)} (hg : ∀ ns l ns' l', g ns l = some (ns', l') → ∃ d m, l = d ++ l' ∧ ns' = ns ++ m ∧ m.length = d.length ∧ 0 < d.length) :
    ∀ (k : Nat) (ns : List PN) (l : List PI) (ks : List Int) (ns' : List PN) (l' : List PI) (ks' : List Int), kidsF g k ns l ks = some (ns', l', ks') → ∃ d m, l = d ++ l' ∧ ns' = ns ++ m ∧ m.length = d.length ∧ k ≤ d.length ∧ ks'.length = ks.length + k
  | 0, ns, l, ks, ns', l', ks', h => by
    rw [kidsF_zero] at h
    injection h with h
    injection h with h1 h2
    injection h2 with h2 h3
    subst h1 h2 h3
    exact ⟨[], [], rfl, (List.append_nil _).symm, rfl, Nat.le_refl _, rfl⟩
  | k + 1, ns, l, ks, ns', l', ks', h => by
    obtain ⟨n1, l1, h1, h2⟩ := kidsF_inv h
    obtain ⟨d, m, rfl, rfl, h3, h4⟩ := hg _ _ _ _ h1
    obtain ⟨d2, m2, rfl, rfl, h5, h6, h7⟩ := kidsF_cut hg k _ _ _ _ _ _ h2
    refine ⟨d ++ d2, m ++ m2, by rw [List.append_assoc], by rw [List.append_assoc], by rw [List.length_append, List.length_append, h3, h5], by rw [List.length_append]; omega, ?_⟩
    rw [h7, List.length_append, List.length_singleton]; omega
theorem oneF_cut : ∀ (f : Nat) (ns : List PN) (l : List PI) (ns' : List PN) (l' : List PI), oneF f ns l = some (ns', l') → ∃ d m, l = d ++ l' ∧ ns' = ns ++ m ∧ m.length = d.length ∧ 0 < d.length
  | 0, ns, l, ns', l', h => by cases h
  | f + 1, ns, l, ns', l', h => by
    obtain ⟨g, x, r, n1, ks, hf, rfl, -, h2, rfl⟩ := oneF_inv h
    obtain rfl : f = g := by omega
    obtain ⟨d, m, rfl, rfl, h5, -, -⟩ := kidsF_cut (oneF_cut f) _ _ _ _ _ _ _ h2
    exact ⟨x :: d, m ++ [x.node ks], rfl, by rw [List.append_assoc], by simp [h5], by simp⟩
theorem kidsF_congr {g h : List PN → List PI → Option (List PN × List PI)} (b : Nat) (he : ∀ ns l, l.length ≤ b → g ns l = h ns l) (hg : ∀ ns l ns' l', g ns l = some (ns', l') → l'.length ≤ l.length) :
    ∀ (k : Nat) (ns : List PN) (l : List PI) (ks : List Int), l.length ≤ b → kidsF g k ns l ks = kidsF h k ns l ks
  | 0, _, _, _, _ => rfl
  | k + 1, ns, l, ks, hl => by
    cases hx : g ns l with
    | none => rw [kidsF_none hx, kidsF_none ((he ns l hl) ▸ hx)]
    | some y =>
      obtain ⟨a, c⟩ := y
      rw [kidsF_some hx, kidsF_some ((he ns l hl) ▸ hx)]
      have := hg _ _ _ _ hx
      exact kidsF_congr b he hg k _ _ _ (by omega)
theorem oneF_short {f : Nat} {ns : List PN} {l : List PI} {ns' : List PN} {l' : List PI} (h : oneF f ns l = some (ns', l')) : l'.length ≤ l.length := by
  obtain ⟨d, m, rfl, -⟩ := oneF_cut _ _ _ _ _ h
  rw [List.length_append]; omega
theorem oneF_fuel : ∀ (f g : Nat) (ns : List PN) (l : List PI), l.length ≤ f → l.length ≤ g → oneF f ns l = oneF g ns l
  | 0, 0, _, _, _, _ => rfl
  | 0, g + 1, ns, l, h, _ => by
    obtain rfl : l = [] := List.length_eq_zero_iff.1 (by omega)
    rfl
  | f + 1, 0, ns, l, _, h => by
    obtain rfl : l = [] := List.length_eq_zero_iff.1 (by omega)
    rfl
  | f + 1, g + 1, ns, [], _, _ => rfl
  | f + 1, g + 1, ns, x :: r, h, h' => by
    by_cases h0 : x.kids < 0
    · rw [oneF_neg h0, oneF_neg h0]
    · have hk : kidsF (oneF f) x.kids.toNat ns r [] = kidsF (oneF g) x.kids.toNat ns r [] := by
        refine kidsF_congr (min f g) (fun ns l hl => oneF_fuel f g ns l (by omega) (by omega)) (fun _ _ _ _ hh => oneF_short hh) _ _ _ _ ?_
        simp at h h'; omega
      cases hx : kidsF (oneF f) x.kids.toNat ns r [] with
      | none => rw [oneF_none hx, oneF_none (hk ▸ hx)]
      | some y =>
        obtain ⟨a, b, c⟩ := y
        rw [oneF_some h0 hx, oneF_some h0 (hk ▸ hx)]
theorem oneL_nil (ns : List PN) : oneL ns [] = none := rfl
theorem oneL_neg {ns : List PN} {x : PI} {r : List PI} (h : x.kids < 0) : oneL ns (x :: r) = none := oneF_neg h
theorem kidsL_eq (f k : Nat) (ns : List PN) (l : List PI) (ks : List Int) (h : l.length ≤ f) : kidsF (oneF f) k ns l ks = kidsF oneL k ns l ks :=
  kidsF_congr f (fun ns l hl => oneF_fuel f l.length ns l hl (Nat.le_refl _)) (fun _ _ _ _ hh => oneF_short hh) _ _ _ _ h
theorem oneL_none {ns : List PN} {x : PI} {r : List PI} (h : kidsF oneL x.kids.toNat ns r [] = none) : oneL ns (x :: r) = none :=
  oneF_none (f := r.length) (by rw [kidsL_eq _ _ _ _ _ (Nat.le_refl _)]; exact h)
theorem oneL_some {ns ns' : List PN} {x : PI} {r r' : List PI} {ks : List Int} (h0 : ¬ x.kids < 0) (h : kidsF oneL x.kids.toNat ns r [] = some (ns', r', ks)) : oneL ns (x :: r) = some (ns' ++ [x.node ks], r') :=
  oneF_some (f := r.length) h0 (by rw [kidsL_eq _ _ _ _ _ (Nat.le_refl _)]; exact h)
theorem oneL_cut {ns : List PN} {l : List PI} {ns' : List PN} {l' : List PI} (h : oneL ns l = some (ns', l')) : ∃ d m, l = d ++ l' ∧ ns' = ns ++ m ∧ m.length = d.length ∧ 0 < d.length := oneF_cut _ _ _ _ _ h
theorem kidsL_cut {k : Nat} {ns : List PN} {l : List PI} {ks : List Int} {ns' : List PN} {l' : List PI} {ks' : List Int} (h : kidsF oneL k ns l ks = some (ns', l', ks')) : ∃ d m, l = d ++ l' ∧ ns' = ns ++ m ∧ m.length = d.length ∧ k ≤ d.length ∧ ks'.length = ks.length + k :=
  kidsF_cut (fun _ _ _ _ hh => oneL_cut hh) _ _ _ _ _ _ _ h
theorem oneL_inv {ns ns' : List PN} {l l' : List PI} (h : oneL ns l = some (ns', l')) : ∃ x r ns1 ks, l = x :: r ∧ ¬ x.kids < 0 ∧ kidsF oneL x.kids.toNat ns r [] = some (ns1, l', ks) ∧ ns' = ns1 ++ [x.node ks] := by
  obtain ⟨g, x, r, n1, ks, hf, rfl, h0, h2, h3⟩ := oneF_inv h
  refine ⟨x, r, n1, ks, rfl, h0, ?_, h3⟩
  rw [kidsL_eq _ _ _ _ _ (by simp at hf; omega)] at h2
  exact h2
/-- What is left behind so many expressions. -/
def restK : List PI → Nat → Option (List PI)
  | [], k => if k = 0 then some [] else none
  | x :: r, k => if k = 0 then some (x :: r) else if x.kids < 0 then none else restK r (x.kids.toNat + (k - 1))
theorem restK_zero (l : List PI) : restK l 0 = some l := by
  cases l with
  | nil => rfl
  | cons x r => exact if_pos rfl
theorem restK_nil (k : Nat) : restK [] (k + 1) = none := rfl
theorem restK_neg {x : PI} {r : List PI} {k : Nat} (h : x.kids < 0) : restK (x :: r) (k + 1) = none := by
  show (if k + 1 = 0 then some (x :: r) else if x.kids < 0 then none else _) = none
  rw [if_neg (by omega), if_pos h]
theorem restK_cons {x : PI} {r : List PI} {k : Nat} (h : ¬ x.kids < 0) : restK (x :: r) (k + 1) = restK r (x.kids.toNat + k) := by
  show (if k + 1 = 0 then some (x :: r) else if x.kids < 0 then none else restK r (x.kids.toNat + (k + 1 - 1))) = _
  rw [if_neg (by omega), if_neg h]; rfl
theorem restK_add : ∀ (l : List PI) (a b : Nat), restK l (a + b) = (restK l a).bind fun r => restK r b
  | l, 0, b => by rw [restK_zero, Nat.zero_add]; rfl
  | [], a + 1, b => by rw [show a + 1 + b = (a + b) + 1 by omega, restK_nil, restK_nil]; rfl
  | x :: r, a + 1, b => by
    rw [show a + 1 + b = (a + b) + 1 by omega]
    by_cases h : x.kids < 0
    · rw [restK_neg h, restK_neg h]; rfl
    · rw [restK_cons h, restK_cons h, ← Nat.add_assoc]
      exact restK_add r _ b
theorem restK_len : ∀ (l : List PI) (k : Nat) (r : List PI), restK l k = some r → k + r.length ≤ l.length
  | l, 0, r, h => by rw [restK_zero] at h; cases h; omega
  | [], k + 1, r, h => by rw [restK_nil] at h; cases h
  | x :: t, k + 1, r, h => by
    by_cases h0 : x.kids < 0
    · rw [restK_neg h0] at h; cases h
    · rw [restK_cons h0] at h
      have := restK_len t _ r h
      rw [List.length_cons]; omega
theorem kids_rest : ∀ (n : Nat) (k : Nat) (ns : List PN) (l : List PI) (ks : List Int), l.length ≤ n → (kidsF oneL k ns l ks).map (fun y => y.2.1) = restK l k
  | n, 0, ns, l, ks, _ => by rw [kidsF_zero, restK_zero]; rfl
  | n, k + 1, ns, [], ks, _ => by rw [kidsF_none (oneL_nil ns), restK_nil]; rfl
  | 0, k + 1, ns, x :: r, ks, h => by simp at h
  | n + 1, k + 1, ns, x :: r, ks, h => by
    by_cases h0 : x.kids < 0
    · rw [kidsF_none (oneL_neg h0), restK_neg h0]; rfl
    · have h1 := kids_rest n x.kids.toNat ns r [] (by simp at h; omega)
      rw [restK_cons h0, restK_add, ← h1]
      cases hx : kidsF oneL x.kids.toNat ns r [] with
      | none => rw [kidsF_none (oneL_none hx)]; rfl
      | some y =>
        obtain ⟨a, b, c⟩ := y
        rw [kidsF_some (oneL_some h0 hx)]
        obtain ⟨d, m, hd, -⟩ := kidsL_cut hx
        exact kids_rest n k _ b _ (by have := congrArg List.length hd; simp at this h; omega)
theorem one_rest (ns : List PN) (l : List PI) : (oneL ns l).map (fun y => y.2) = restK l 1 := by
  rw [← kids_rest l.length 1 ns l [] (Nat.le_refl _)]
  cases hx : oneL ns l with
  | none => rw [kidsF_none hx]; rfl
  | some y => obtain ⟨a, b⟩ := y; rw [kidsF_some hx]; rfl
/-- The program's count: how many expressions are still to come. -/
def singleL : List PI → Int → Bool
  | [], o => o == 0
  | x :: r, o => if o = 0 ∨ x.kids < 0 ∨ (r.length : Int) + 1 - o < x.kids then false else singleL r (o + (x.kids - 1))
theorem singleL_is : ∀ (l : List PI) (o : Nat), singleL l o = decide (restK l o = some [])
  | [], 0 => rfl
  | [], o + 1 => by rw [restK_nil]; simp [singleL]; omega
  | x :: r, 0 => by rw [restK_zero]; simp [singleL]
  | x :: r, o + 1 => by
    by_cases h0 : x.kids < 0
    · rw [restK_neg h0]; simp [singleL, h0]
    · by_cases h1 : (r.length : Int) + 1 - ((o + 1 : Nat) : Int) < x.kids
      · have : ¬ restK (x :: r) (o + 1) = some [] := fun h => by
          rw [restK_cons h0] at h
          have := restK_len _ _ _ h
          omega
        rw [decide_eq_false this]
        show (if ((o + 1 : Nat) : Int) = 0 ∨ x.kids < 0 ∨ (r.length : Int) + 1 - ((o + 1 : Nat) : Int) < x.kids then false else _) = false
        rw [if_pos (Or.inr (Or.inr h1))]
      · rw [restK_cons h0, ← singleL_is r (x.kids.toNat + o)]
        show (if ((o + 1 : Nat) : Int) = 0 ∨ x.kids < 0 ∨ (r.length : Int) + 1 - ((o + 1 : Nat) : Int) < x.kids then false else singleL r (((o + 1 : Nat) : Int) + (x.kids - 1))) = _
        rw [if_neg (by omega), show ((o + 1 : Nat) : Int) + (x.kids - 1) = ((x.kids.toNat + o : Nat) : Int) by omega]
theorem single_one (ns : List PN) (l : List PI) (h : singleL l 1 = true) : ∃ ns', oneL ns l = some (ns', []) := by
  have h1 := singleL_is l 1
  rw [show ((1 : Nat) : Int) = 1 from rfl, h] at h1
  have h2 := of_decide_eq_true h1.symm
  rw [← one_rest ns l] at h2
  cases hx : oneL ns l with
  | none => rw [hx] at h2; cases h2
  | some y => obtain ⟨a, b⟩ := y; rw [hx] at h2; injection h2 with h2; exact ⟨a, by rw [show b = [] from h2]⟩
theorem single_not (ns : List PN) (l : List PI) (h : singleL l 1 = false) (ns' : List PN) : oneL ns l ≠ some (ns', []) := fun hx => by
  have h1 := singleL_is l 1
  rw [show ((1 : Nat) : Int) = 1 from rfl, h] at h1
  have h2 := of_decide_eq_false h1.symm
  rw [← one_rest ns l, hx] at h2
  exact h2 rfl
/-- The grammar of rules: its rules and nodes, with some before them. -/
def ofL : List PQ → List PN → List PR → Option (List PR × List PN)
  | [], ns, rs => some (rs, ns)
  | q :: t, ns, rs => match oneL ns q.items with
    | none => none
    | some y => if y.2 = [] then ofL t y.1 (rs ++ [PR.mk q.name ((y.1.length : Int) - 1)]) else none
theorem ofL_none {q : PQ} {t : List PQ} {ns : List PN} {rs : List PR} (h : oneL ns q.items = none) : ofL (q :: t) ns rs = none := by
  show (match oneL ns q.items with | none => none | some y => if y.2 = [] then ofL t y.1 (rs ++ [PR.mk q.name ((y.1.length : Int) - 1)]) else none) = none
  rw [h]
theorem ofL_more {q : PQ} {t : List PQ} {ns ns' : List PN} {rs : List PR} {r : List PI} (h : oneL ns q.items = some (ns', r)) (hr : r ≠ []) : ofL (q :: t) ns rs = none := by
  show (match oneL ns q.items with | none => none | some y => if y.2 = [] then ofL t y.1 (rs ++ [PR.mk q.name ((y.1.length : Int) - 1)]) else none) = none
  rw [h]; exact if_neg hr
theorem ofL_step {q : PQ} {t : List PQ} {ns ns' : List PN} {rs : List PR} (h : oneL ns q.items = some (ns', [])) : ofL (q :: t) ns rs = ofL t ns' (rs ++ [PR.mk q.name ((ns'.length : Int) - 1)]) := by
  show (match oneL ns q.items with | none => none | some y => if y.2 = [] then ofL t y.1 (rs ++ [PR.mk q.name ((y.1.length : Int) - 1)]) else none) = _
  rw [h]; exact if_pos rfl
theorem ofL_inv {q : PQ} {t : List PQ} {ns : List PN} {rs : List PR} {y : List PR × List PN} (h : ofL (q :: t) ns rs = some y) : ∃ ns', oneL ns q.items = some (ns', []) ∧ ofL t ns' (rs ++ [PR.mk q.name ((ns'.length : Int) - 1)]) = some y := by
  cases hx : oneL ns q.items with
  | none => rw [ofL_none hx] at h; cases h
  | some z =>
    obtain ⟨a, b⟩ := z
    by_cases hb : b = []
    · subst hb; rw [ofL_step hx] at h; exact ⟨a, rfl, h⟩
    · rw [ofL_more hx hb] at h; cases h
theorem ofL_all : ∀ (l : List PQ) (ns : List PN) (rs : List PR), (∀ q, q ∈ l → singleL q.items 1 = true) → ∃ y, ofL l ns rs = some y
  | [], ns, rs, _ => ⟨_, rfl⟩
  | q :: t, ns, rs, h => by
    obtain ⟨ns', h1⟩ := single_one ns q.items (h q (by simp))
    rw [ofL_step h1]
    exact ofL_all t _ _ (fun x hx => h x (by simp [hx]))
theorem ofL_not : ∀ (l : List PQ) (ns : List PN) (rs : List PR) (q : PQ), q ∈ l → singleL q.items 1 = false → ofL l ns rs = none
  | [], _, _, q, h, _ => nomatch h
  | p :: t, ns, rs, q, h, hq => by
    cases hx : ofL (p :: t) ns rs with
    | none => rfl
    | some y =>
      obtain ⟨ns', h1, h2⟩ := ofL_inv hx
      rcases List.mem_cons.1 h with rfl | h
      · exact absurd h1 (single_not ns q.items hq ns')
      · rw [ofL_not t _ _ q h hq] at h2; cases h2
theorem ofL_cut : ∀ (l : List PQ) (ns : List PN) (rs : List PR) (rs' : List PR) (ns' : List PN), ofL l ns rs = some (rs', ns') → ∃ t m, rs' = rs ++ t ∧ ns' = ns ++ m ∧ t.length = l.length ∧ m.length = (l.map fun q => q.items.length).sum
  | [], ns, rs, rs', ns', h => by
    injection h with h
    injection h with h1 h2
    subst h1 h2
    exact ⟨[], [], (List.append_nil _).symm, (List.append_nil _).symm, rfl, rfl⟩
  | q :: t, ns, rs, rs', ns', h => by
    obtain ⟨n1, h1, h2⟩ := ofL_inv h
    obtain ⟨d, m, h3, h4, h5, -⟩ := oneL_cut h1
    obtain ⟨t2, m2, rfl, rfl, h6, h7⟩ := ofL_cut t _ _ _ _ h2
    rw [List.append_nil] at h3
    refine ⟨_ :: t2, m ++ m2, by rw [List.append_assoc]; rfl, by rw [h4, List.append_assoc], by simp [h6], ?_⟩
    rw [List.length_append, h5, h7, ← h3]; rfl
/-- The items of a node; the first number bounds the depth. -/
def itF (ns : List PN) : Nat → Int → List PI
  | 0, _ => []
  | f + 1, i => match ns[i.toNat]? with
    | none => []
    | some n => n.item :: n.kids.flatMap (itF ns f)
def itL (ns : List PN) (i : Int) : List PI := itF ns (i.toNat + 1) i
theorem itF_eq {ns : List PN} {f : Nat} {i : Int} {n : PN} (h : ns[i.toNat]? = some n) : itF ns (f + 1) i = n.item :: n.kids.flatMap (itF ns f) := by
  show (match ns[i.toNat]? with | none => [] | some n => n.item :: n.kids.flatMap (itF ns f)) = _
  rw [h]
theorem itF_none {ns : List PN} {f : Nat} {i : Int} (h : ns[i.toNat]? = none) : itF ns (f + 1) i = [] := by
  show (match ns[i.toNat]? with | none => [] | some n => n.item :: n.kids.flatMap (itF ns f)) = _
  rw [h]
theorem flatMap_congr' {α β : Type} {f g : α → List β} : ∀ (l : List α), (∀ x, x ∈ l → f x = g x) → l.flatMap f = l.flatMap g
  | [], _ => rfl
  | a :: l, h => by rw [List.flatMap_cons, List.flatMap_cons, h a (by simp), flatMap_congr' l (fun x hx => h x (by simp [hx]))]
theorem itF_fuel {ns : List PN} (hK : KidsBelow ns) : ∀ (f g : Nat) (i : Int), i < f → i < g → 0 ≤ i → itF ns f i = itF ns g i
  | 0, g, i, h, _, h0 => by omega
  | f + 1, 0, i, _, h, h0 => by omega
  | f + 1, g + 1, i, h, h', h0 => by
    cases hn : ns[i.toNat]? with
    | none => rw [itF_none hn, itF_none hn]
    | some n =>
      rw [itF_eq hn, itF_eq hn]
      congr 1
      exact flatMap_congr' _ (fun k hk => by
        have := hK _ n hn k hk
        exact itF_fuel hK f g k (by omega) (by omega) this.1)
theorem itL_eq {ns : List PN} (hK : KidsBelow ns) {i : Nat} {n : PN} (h : ns[i]? = some n) : itL ns (i : Int) = n.item :: n.kids.flatMap (itL ns) := by
  unfold itL
  rw [itF_eq (show ns[(i : Int).toNat]? = some n from h)]
  congr 1
  refine flatMap_congr' _ (fun k hk => ?_)
  have := hK _ n h k hk
  exact itF_fuel hK _ _ k (by omega) (by omega) this.1
/-- Back: the items of what was taken are those that were given. -/
theorem itF_kids {f : Nat} (hf : ∀ ns l ns' l', oneF f ns l = some (ns', l') → ∀ (more : List PN) (g : Nat), ns'.length ≤ g → itF (ns' ++ more) g ((ns'.length : Int) - 1) ++ l' = l) :
    ∀ (k : Nat) (ns : List PN) (l : List PI) (ks : List Int) (ns' : List PN) (l' : List PI) (ks' : List Int), kidsF (oneF f) k ns l ks = some (ns', l', ks') → ∃ t, ks' = ks ++ t ∧ ∀ (more : List PN) (g : Nat), ns'.length ≤ g → t.flatMap (itF (ns' ++ more) g) ++ l' = l
  | 0, ns, l, ks, ns', l', ks', h => by
    rw [kidsF_zero] at h
    injection h with h
    injection h with h1 h2
    injection h2 with h2 h3
    subst h1 h2 h3
    exact ⟨[], (List.append_nil _).symm, fun _ _ _ => rfl⟩
  | k + 1, ns, l, ks, ns', l', ks', h => by
    obtain ⟨n1, l1, h1, h2⟩ := kidsF_inv h
    obtain ⟨t, ht, h3⟩ := itF_kids hf k _ _ _ _ _ _ h2
    obtain ⟨d2, m2, -, hm2, -⟩ := kidsF_cut (oneF_cut f) _ _ _ _ _ _ _ h2
    refine ⟨((n1.length : Int) - 1) :: t, by rw [ht, List.append_assoc]; rfl, fun more g hg => ?_⟩
    rw [List.flatMap_cons, List.append_assoc, h3 more g hg, hm2, List.append_assoc]
    rw [hm2, List.length_append] at hg
    exact hf _ _ _ _ h1 _ g (by omega)
theorem itF_of : ∀ (f : Nat) (ns : List PN) (l : List PI) (ns' : List PN) (l' : List PI), oneF f ns l = some (ns', l') → ∀ (more : List PN) (g : Nat), ns'.length ≤ g → itF (ns' ++ more) g ((ns'.length : Int) - 1) ++ l' = l
  | 0, _, _, _, _, h => by cases h
  | f + 1, ns, l, ns', l', h => by
    obtain ⟨g, x, r, n1, ks, hf, rfl, h0, h2, rfl⟩ := oneF_inv h
    obtain rfl : f = g := by omega
    obtain ⟨t, ht, h3⟩ := itF_kids (itF_of f) _ _ _ _ _ _ _ h2
    obtain ⟨-, -, -, -, -, -, hkl⟩ := kidsF_cut (oneF_cut f) _ _ _ _ _ _ _ h2
    obtain rfl : ks = t := by simpa using ht
    intro more g hg
    obtain ⟨g, rfl⟩ : ∃ g', g = g' + 1 := ⟨g - 1, by simp at hg; omega⟩
    have hi : ((((n1 ++ [x.node ks]).length : Nat) : Int) - 1).toNat = n1.length := by simp
    have hn : ((n1 ++ [x.node ks]) ++ more)[((((n1 ++ [x.node ks]).length : Nat) : Int) - 1).toNat]? = some (x.node ks) := by
      rw [hi, List.append_assoc, List.getElem?_append_right (Nat.le_refl _), Nat.sub_self]; rfl
    rw [itF_eq hn, PI.node_item x ks (by simp at hkl; omega), List.cons_append]
    congr 1
    have := h3 ([x.node ks] ++ more) g (by simp at hg; omega)
    rw [← List.append_assoc] at this
    exact this
theorem itL_of {ns : List PN} {l : List PI} {ns' : List PN} (h : oneL ns l = some (ns', [])) (more : List PN) : itL (ns' ++ more) ((ns'.length : Int) - 1) = l := by
  obtain ⟨d, m, -, hm, h5, h6⟩ := oneL_cut h
  have hl : 0 < ns'.length := by rw [hm, List.length_append]; omega
  have := itF_of _ _ _ _ _ h more ns'.length (Nat.le_refl _)
  rw [List.append_nil] at this
  unfold itL
  rw [show ((ns'.length : Int) - 1).toNat + 1 = ns'.length by omega]
  exact this
/-- The rules of a grammar with their items. -/
def itemsR (rs : List PR) (ns : List PN) : List PQ := rs.map fun r => ⟨r.name, itL ns r.root⟩
theorem ofL_back : ∀ (l : List PQ) (ns : List PN) (rs : List PR) (rs' : List PR) (ns' : List PN), ofL l ns rs = some (rs', ns') → ∃ t, rs' = rs ++ t ∧ itemsR t ns' = l
  | [], ns, rs, rs', ns', h => by
    injection h with h
    injection h with h1 h2
    subst h1
    exact ⟨[], (List.append_nil _).symm, rfl⟩
  | q :: t, ns, rs, rs', ns', h => by
    obtain ⟨n1, h1, h2⟩ := ofL_inv h
    obtain ⟨-, m2, -, hm2, -⟩ := ofL_cut t _ _ _ _ h2
    obtain ⟨t2, rfl, h3⟩ := ofL_back t _ _ _ _ h2
    refine ⟨⟨q.name, (n1.length : Int) - 1⟩ :: t2, by rw [List.append_assoc]; rfl, ?_⟩
    show PQ.mk q.name (itL ns' ((n1.length : Int) - 1)) :: itemsR t2 ns' = _
    rw [h3, hm2, itL_of h1 m2]
theorem ofL_items {l : List PQ} {rs : List PR} {ns : List PN} (h : ofL l [] [] = some (rs, ns)) : itemsR rs ns = l := by
  obtain ⟨t, rfl, h2⟩ := ofL_back l _ _ _ _ h
  exact h2
/-- The index before kid p of node i, and behind the last kid the one before the node. -/
def upto (e : Int) (ks : List Int) (p : Nat) : Int := if p = 0 then e else ks.getD (p - 1) 0
theorem upto_zero (e : Int) (ks : List Int) : upto e ks 0 = e := rfl
theorem upto_succ {e : Int} {ks : List Int} {p : Nat} {k : Int} (h : ks[p]? = some k) : upto e ks (p + 1) = k := by
  unfold upto; rw [if_neg (by omega)]; simp [List.getD, h]
theorem kid_span {ns : List PN} {i : Nat} {n : PN} (hn : ns[i]? = some n) (he : exL ns i ≠ -2) {p : Nat} {k : Int} (hk : n.kids[p]? = some k) : exL ns k = upto (exL ns i) n.kids p ∧ exL ns k ≠ -2 ∧ exL ns k < k ∧ 0 ≤ k ∧ k < i := by
  have hq := exL_eq ns (i : Int) (by omega)
  rw [show (i : Int).toNat = i by omega, kidsAt_some hn] at hq
  obtain ⟨h1, h2⟩ := chain_spans n.kids.reverse ((i : Int) - 1) (exL ns i) hq.symm he p k (by rw [List.reverse_reverse]; exact hk)
  rw [List.reverse_reverse] at h2
  have h3 := exL_lt ns k h1
  have h4 := chain_kids n.kids.reverse ((i : Int) - 1) (by rw [← hq]; exact he) k (List.mem_reverse.2 (List.mem_of_getElem? hk))
  exact ⟨h2, h1, h3.2.1, h4.1, by omega⟩
theorem upto_end {ns : List PN} {i : Nat} {n : PN} (hn : ns[i]? = some n) (he : exL ns i ≠ -2) : upto (exL ns i) n.kids n.kids.length = (i : Int) - 1 := by
  have hq := exL_eq ns (i : Int) (by omega)
  rw [show (i : Int).toNat = i by omega, kidsAt_some hn] at hq
  cases hr : n.kids.reverse with
  | nil =>
    have : n.kids = [] := List.reverse_eq_nil_iff.1 hr
    rw [this, hq, hr]; rfl
  | cons k t =>
    have hk : n.kids = t.reverse ++ [k] := by rw [← List.reverse_reverse n.kids, hr, List.reverse_cons]
    rw [hr] at hq
    obtain ⟨h1, -, -⟩ := chainL_cons (hq ▸ he)
    rw [hk, List.length_append, List.length_singleton, upto_succ (k := k) (by rw [List.getElem?_append_right (Nat.le_refl _), Nat.sub_self]; rfl), h1]
theorem take_int {ns : List PN} {i : Nat} {n : PN} (h : ns[i]? = some n) : ns.take ((i : Int) + 1).toNat = ns.take ((i : Int) - 1 + 1).toNat ++ [n] := by
  rw [show ((i : Int) + 1).toNat = i + 1 by omega, show ((i : Int) - 1 + 1).toNat = i by omega]
  obtain ⟨h1, h2⟩ := List.getElem?_eq_some_iff.1 h
  rw [List.take_succ_eq_append_getElem h1, h2]
/-- Forth: the items of a node in post-order lead to its nodes. -/
theorem one_kids {ns : List PN} {i : Nat} {n : PN} (hn : ns[i]? = some n) (he : exL ns i ≠ -2)
    (ih : ∀ j : Nat, j < i → exL ns j ≠ -2 → ∀ l, oneL (ns.take (exL ns j + 1).toNat) (itL ns j ++ l) = some (ns.take ((j : Int) + 1).toNat, l)) :
    ∀ (k p : Nat) (l : List PI), p + k = n.kids.length → kidsF oneL k (ns.take (upto (exL ns i) n.kids p + 1).toNat) ((n.kids.drop p).flatMap (itL ns) ++ l) (n.kids.take p) = some (ns.take ((i : Int) - 1 + 1).toNat, l, n.kids)
  | 0, p, l, h => by
    obtain rfl : p = n.kids.length := by omega
    rw [kidsF_zero, upto_end hn he, List.drop_length, List.take_length]; rfl
  | k + 1, p, l, h => by
    have hil : i < ns.length := (List.getElem?_eq_some_iff.1 hn).1
    obtain ⟨x, hx⟩ : ∃ x, n.kids[p]? = some x := ⟨_, List.getElem?_eq_getElem (by omega)⟩
    obtain ⟨h1, h2, h3, h4, h5⟩ := kid_span hn he hx
    obtain ⟨j, rfl⟩ : ∃ j : Nat, x = j := ⟨x.toNat, by omega⟩
    have hd : n.kids.drop p = (j : Int) :: n.kids.drop (p + 1) := by
      obtain ⟨a, b⟩ := List.getElem?_eq_some_iff.1 hx
      rw [List.drop_eq_getElem_cons a, b]
    have hone := ih j (by omega) h2 ((n.kids.drop (p + 1)).flatMap (itL ns) ++ l)
    rw [h1] at hone
    rw [hd, List.flatMap_cons, List.append_assoc, kidsF_some hone, ← upto_succ (e := exL ns i) hx]
    have ht : n.kids.take p ++ [(((ns.take (upto (exL ns i) n.kids (p + 1) + 1).toNat).length : Nat) : Int) - 1] = n.kids.take (p + 1) := by
      obtain ⟨a, b⟩ := List.getElem?_eq_some_iff.1 hx
      rw [List.take_succ_eq_append_getElem a, b, upto_succ hx, List.length_take]
      congr 2
      omega
    rw [ht]
    exact one_kids hn he ih k (p + 1) l (by omega)
theorem one_of {ns : List PN} : ∀ (b i : Nat), i < b → exL ns i ≠ -2 → i < ns.length → AllEx ns → ∀ l, oneL (ns.take (exL ns i + 1).toNat) (itL ns i ++ l) = some (ns.take ((i : Int) + 1).toNat, l)
  | 0, i, h, _, _, _ => by omega
  | b + 1, i, h, he, hi, hA => by
    intro l
    obtain ⟨n, hn⟩ : ∃ n, ns[i]? = some n := ⟨_, List.getElem?_eq_getElem hi⟩
    have hk := one_kids hn he (fun j hj hje l => one_of b j (by omega) hje (by omega) hA l) n.kids.length 0 l (by omega)
    rw [upto_zero, List.drop_zero, List.take_zero] at hk
    have hkn : n.item.kids.toNat = n.kids.length := by show ((n.kids.length : Nat) : Int).toNat = _; omega
    rw [itL_eq hA.kids hn, List.cons_append, oneL_some (by show ¬ ((n.kids.length : Nat) : Int) < 0; omega) (by rw [hkn]; exact hk), take_int hn]
    rfl
theorem one_items {ns : List PN} (hA : AllEx ns) {i : Int} (h0 : 0 ≤ i) (hi : i < ns.length) (l : List PI) : oneL (ns.take (exL ns i + 1).toNat) (itL ns i ++ l) = some (ns.take (i + 1).toNat, l) := by
  obtain ⟨j, rfl⟩ : ∃ j : Nat, i = j := ⟨i.toNat, by omega⟩
  exact one_of (j + 1) j (by omega) (hA _ h0 hi) (by omega) hA l
theorem itL_length {ns : List PN} (hA : AllEx ns) {i : Int} (h0 : 0 ≤ i) (hi : i < ns.length) : ((itL ns i).length : Int) = i - exL ns i := by
  have h := one_items hA h0 hi []
  obtain ⟨d, m, h1, h2, h3, -⟩ := oneL_cut h
  rw [List.append_nil, List.append_nil] at h1
  have h4 := congrArg List.length h2
  rw [List.length_append, h3, ← h1, List.length_take, List.length_take] at h4
  have h5 := exL_lt ns i (hA i h0 hi)
  omega
theorem ofL_forth {ns : List PN} (hA : AllEx ns) : ∀ (t : List PR) (b : Int) (rs : List PR), -1 ≤ b → b < ns.length → ordR ns t b = true → ofL (itemsR t ns) (ns.take (b + 1).toNat) rs = some (rs ++ t, ns)
  | [], b, rs, h0, h1, h => by
    have : b = (ns.length : Int) - 1 := by simpa [ordR] using h
    show some (rs, ns.take (b + 1).toNat) = _
    rw [List.append_nil, List.take_of_length_le (by omega)]
  | r :: t, b, rs, h0, h1, h => by
    obtain ⟨h2, h3, h4, h5⟩ := ordR_cons h
    have hone := one_items hA (i := r.root) (by omega) h3 []
    rw [List.append_nil, h4] at hone
    have hs : ofL (itemsR (r :: t) ns) (ns.take (b + 1).toNat) rs = _ := ofL_step (q := ⟨r.name, itL ns r.root⟩) (t := itemsR t ns) hone
    rw [hs, ofL_forth hA t r.root _ (by omega) h3 h5, List.append_assoc]
    have : (((ns.take (r.root + 1).toNat).length : Nat) : Int) - 1 = r.root := by rw [List.length_take]; omega
    rw [this]; rfl
theorem ofL_inverse {rs : List PR} {ns : List PN} (h : ordR ns rs (-1) = true) : ofL (itemsR rs ns) [] [] = some (rs, ns) := by
  have := ofL_forth (ordR_ex h) rs (-1) [] (by omega) (by omega) h
  rw [show ((-1 : Int) + 1).toNat = 0 from rfl, List.take_zero, List.nil_append] at this
  exact this
end Go.Proofs.Ytklimoepkifnhaa
