/- Quoted strings as plain functions on lists of bytes: what the program does, what the reference does, and that they agree. No walk. -/
import Derived.Test.YtklimoepkifnhaaEscMath
namespace Go.Proofs.Ytklimoepkifnhaa
theorem rdl_drop_lt {d : Nat} {r : List Nat} {c n : Nat} (h : rdl (d :: r) = some (c, n)) : ((d :: r).drop n).length < (d :: r).length := by
  have := rdl_len _ _ _ h
  rw [List.length_drop]; omega
/-- The characters of a list, none of which begins with q: their bytes. -/
def unq (q : Nat) (l : List Nat) : Option (List Nat) :=
  match l with
  | [] => some []
  | d :: r =>
    match _h : rdl (d :: r) with
    | none => none
    | some (c, n) => if d = q then none else (unq q ((d :: r).drop n)).map (c :: ·)
termination_by l.length
decreasing_by exact rdl_drop_lt _h
/-- The characters of a list up to the first one that begins with q, which must end the list: their bytes. -/
def rq (q : Nat) (l : List Nat) : Option (List Nat) :=
  match l with
  | [] => none
  | d :: r =>
    if d = q then (if r = [] then some [] else none) else
    match _h : rdl (d :: r) with
    | none => none
    | some (c, n) => (rq q ((d :: r).drop n)).map (c :: ·)
termination_by l.length
decreasing_by exact rdl_drop_lt _h
theorem unq_nil (q : Nat) : unq q [] = some [] := by rw [unq]
theorem unq_bad {q d : Nat} {r : List Nat} (h : rdl (d :: r) = none) : unq q (d :: r) = none := by
  rw [unq]
  split
  · rfl
  · rename_i h'; rw [h] at h'; cases h'
theorem unq_quote {q : Nat} {r : List Nat} : unq q (q :: r) = none := by
  rw [unq]
  split
  · rfl
  · rw [if_pos rfl]
theorem unq_step {q d c n : Nat} {r : List Nat} (h : rdl (d :: r) = some (c, n)) (hd : d ≠ q) : unq q (d :: r) = (unq q ((d :: r).drop n)).map (c :: ·) := by
  rw [unq]
  split
  · rename_i h'; rw [h] at h'; cases h'
  · rename_i c' n' h'
    rw [h] at h'
    obtain ⟨rfl, rfl⟩ := Prod.mk.inj (Option.some.inj h')
    rw [if_neg hd]
theorem rq_nil (q : Nat) : rq q [] = none := by rw [rq]
theorem rq_end (q : Nat) : rq q [q] = some [] := by rw [rq]; rw [if_pos rfl, if_pos rfl]
theorem rq_early {q : Nat} {r : List Nat} (h : r ≠ []) : rq q (q :: r) = none := by rw [rq]; rw [if_pos rfl, if_neg h]
theorem rq_bad {q d : Nat} {r : List Nat} (h : rdl (d :: r) = none) (hd : d ≠ q) : rq q (d :: r) = none := by
  rw [rq, if_neg hd]
  split
  · rfl
  · rename_i h'; rw [h] at h'; cases h'
theorem rq_step {q d c n : Nat} {r : List Nat} (h : rdl (d :: r) = some (c, n)) (hd : d ≠ q) : rq q (d :: r) = (rq q ((d :: r).drop n)).map (c :: ·) := by
  rw [rq, if_neg hd]
  split
  · rename_i h'; rw [h] at h'; cases h'
  · rename_i c' n' h'
    rw [h] at h'
    obtain ⟨rfl, rfl⟩ := Prod.mk.inj (Option.some.inj h')
    rfl
theorem numF_snoc {q : Nat} (hq : oct q = false) : ∀ (l : List Nat) (k c n : Nat), numF c n ((l ++ [q]).take k) = numF c n (l.take k)
  | [], 0, c, n => rfl
  | [], k + 1, c, n => by
    have e1 : (([] : List Nat) ++ [q]).take (k + 1) = [q] := by simp
    have e2 : ([] : List Nat).take (k + 1) = [] := rfl
    rw [e1, e2, numF_no q [] hq]; rfl
  | a :: l, 0, c, n => rfl
  | a :: l, k + 1, c, n => by
    rw [List.cons_append, List.take_succ_cons, List.take_succ_cons]
    cases ha : oct a
    · rw [numF_no _ _ ha, numF_no _ _ ha]
    · rw [numF_yes _ _ ha, numF_yes _ _ ha, numF_snoc hq l k]
theorem esc_snoc {q : Nat} (hq : oct q = false) (e : Nat) (t : List Nat) : esc (e :: t ++ [q]) = esc (e :: t) := by
  rw [List.cons_append, esc_cons, esc_cons, ← List.cons_append, numF_snoc hq, numF_snoc hq]
theorem rdl_snoc {q : Nat} (hq : oct q = false) (d : Nat) (t : List Nat) (h : ¬ (d = 92 ∧ t = [])) : rdl (d :: t ++ [q]) = rdl (d :: t) := by
  by_cases hd : d = 92
  · subst hd
    cases t with
    | nil => exact absurd ⟨rfl, rfl⟩ h
    | cons e t =>
      show rdl (92 :: (e :: t ++ [q])) = _
      rw [rdl_esc, rdl_esc, esc_snoc hq]
  · rw [List.cons_append, rdl_plain _ _ hd, rdl_plain _ _ hd]
theorem quote_oct {q : Nat} (h : q = 39 ∨ q = 34) : oct q = false := by rcases h with rfl | rfl <;> rfl
theorem rdl_last {q : Nat} (h : q = 39 ∨ q = 34) : rdl [92, q] = some (q, 2) := by rcases h with rfl | rfl <;> rfl
/-- The reference's way, on a list that ends with q. -/
theorem rq_snoc {q : Nat} (hq : q = 39 ∨ q = 34) : ∀ (m : Nat) (l : List Nat), l.length ≤ m → rq q (l ++ [q]) = unq q l
  | _, [], _ => by rw [unq_nil]; exact rq_end q
  | 0, d :: t, h => absurd h (by rw [List.length_cons]; omega)
  | m + 1, d :: t, hm => by
    rw [List.length_cons] at hm
    by_cases hd : d = q
    · subst hd
      rw [unq_quote]
      exact rq_early (by simp)
    · by_cases h92 : d = 92 ∧ t = []
      · obtain ⟨rfl, rfl⟩ := h92
        show rq q [92, q] = unq q [92]
        rw [rq_step (rdl_last hq) hd, unq_bad rfl]
        show (rq q []).map _ = none
        rw [rq_nil]; rfl
      · have hs := rdl_snoc (quote_oct hq) d t h92
        cases hr : rdl (d :: t) with
        | none =>
          rw [hr] at hs
          rw [unq_bad hr]
          exact rq_bad hs hd
        | some x =>
          obtain ⟨c, n⟩ := x
          rw [hr] at hs
          have hn := rdl_len _ _ _ hr
          rw [unq_step hr hd]
          have := rq_step (q := q) (r := t ++ [q]) hs hd
          rw [List.cons_append, this, ← List.cons_append, List.drop_append_of_le_length hn.2]
          rw [rq_snoc hq m _ (by rw [List.length_drop, List.length_cons]; omega)]
/-- The reference's way, on a list that doesn't end with q. -/
theorem rq_other {q : Nat} : ∀ (m : Nat) (l : List Nat), l.length ≤ m → l.getLast? ≠ some q → rq q l = none
  | _, [], _, _ => rq_nil q
  | 0, d :: t, h, _ => absurd h (by rw [List.length_cons]; omega)
  | m + 1, d :: t, hm, hl => by
    rw [List.length_cons] at hm
    by_cases hd : d = q
    · subst hd
      refine rq_early (fun e => ?_)
      subst e
      exact hl rfl
    · cases hr : rdl (d :: t) with
      | none => exact rq_bad hr hd
      | some x =>
        obtain ⟨c, n⟩ := x
        have hn := rdl_len _ _ _ hr
        rw [rq_step hr hd, rq_other m _ (by rw [List.length_drop, List.length_cons]; omega) (fun e => ?_)]
        · rfl
        · by_cases hz : n = (d :: t).length
          · rw [hz, List.drop_length] at e; cases e
          · rw [List.getLast?_drop, if_neg (by omega)] at e
            exact hl e
/-- The bytes of a quoted string. -/
def unquoteL (l : List Nat) : Option (List Nat) :=
  if 2 ≤ l.length ∧ (l.headD 0 = 39 ∨ l.headD 0 = 34) ∧ l.getLast? = some (l.headD 0) then unq (l.headD 0) ((l.drop 1).take (l.length - 2)) else none
theorem unquote_ref (l : List Nat) (q : Nat) (t : List Nat) (hl : l = q :: t) (hq : q = 39 ∨ q = 34) : rq q t = unquoteL l := by
  subst hl
  unfold unquoteL
  rw [List.headD_cons, List.length_cons]
  by_cases h : 2 ≤ t.length + 1 ∧ (q = 39 ∨ q = 34) ∧ (q :: t).getLast? = some q
  · rw [if_pos h]
    obtain ⟨h2, -, h3⟩ := h
    have ht : t ≠ [] := fun e => by subst e; simp at h2
    rw [List.getLast?_cons, Option.some.injEq] at h3
    have e : t = t.dropLast ++ [q] := by
      rw [List.getLast?_eq_some_getLast ht, Option.getD_some] at h3
      conv => lhs; rw [← List.dropLast_concat_getLast ht]
      rw [h3]
    have e2 : ((q :: t).drop 1).take (t.length + 1 - 2) = t.dropLast := by
      rw [List.drop_one, List.tail_cons, List.dropLast_eq_take]
      congr 1
    rw [e2]
    conv => lhs; rw [e]
    exact rq_snoc hq _ _ (Nat.le_refl _)
  · rw [if_neg h]
    refine rq_other _ _ (Nat.le_refl _) (fun e => h ⟨?_, hq, ?_⟩)
    · cases t with
      | nil => cases e
      | cons a t => rw [List.length_cons]; omega
    · rw [List.getLast?_cons, e]; rfl
theorem map_map_cons (o : Option (List Nat)) (acc : List Nat) (c : Nat) : (o.map (c :: ·)).map (acc ++ ·) = o.map ((acc ++ [c]) ++ ·) := by
  cases o with
  | none => rfl
  | some x => simp
end Go.Proofs.Ytklimoepkifnhaa
