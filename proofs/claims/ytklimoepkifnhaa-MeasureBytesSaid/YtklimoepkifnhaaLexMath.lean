/- Tokens of grammar files as plain functions on lists of bytes. No walk. -/
import Derived.Test.YtklimoepkifnhaaUnqMath
namespace Go.Proofs.Ytklimoepkifnhaa
/-- May a byte stand in an identifier? -/
def letB (c : Nat) (first : Bool) : Bool := if 48 ≤ c ∧ c ≤ 57 then !first else decide (c = 95 ∨ (97 ≤ c ∧ c ≤ 122) ∨ (65 ≤ c ∧ c ≤ 90))
/-- Are all bytes of an identifier's kind, the first one as a first one if f says so? -/
def allF : Bool → List Nat → Bool
  | _, [] => true
  | f, c :: r => if letB c f then allF false r else false
theorem allF_yes {f : Bool} {c : Nat} {r : List Nat} (h : letB c f = true) : allF f (c :: r) = allF false r := by
  show (if letB c f then allF false r else false) = _
  rw [if_pos h]
theorem allF_no {f : Bool} {c : Nat} {r : List Nat} (h : letB c f = false) : allF f (c :: r) = false := by
  show (if letB c f then allF false r else false) = _
  rw [h]; rfl
def nameB (l : List Nat) : Bool := !l.isEmpty && allF true l
/-- How many bytes stand ahead of the first line end. -/
def comL : List Nat → Option Nat
  | [] => none
  | c :: r => if c = 10 ∨ c = 13 then some 0 else (comL r).map (· + 1)
theorem comL_end {c : Nat} {r : List Nat} (h : c = 10 ∨ c = 13) : comL (c :: r) = some 0 := by
  show (if c = 10 ∨ c = 13 then some 0 else (comL r).map (· + 1)) = _
  rw [if_pos h]
theorem comL_step {c : Nat} {r : List Nat} (h : ¬ (c = 10 ∨ c = 13)) : comL (c :: r) = (comL r).map (· + 1) := by
  show (if c = 10 ∨ c = 13 then some 0 else (comL r).map (· + 1)) = _
  rw [if_neg h]
theorem comL_lt : ∀ (l : List Nat) (m : Nat), comL l = some m → m < l.length
  | [], m, h => by cases h
  | c :: r, m, h => by
    rw [List.length_cons]
    by_cases hc : c = 10 ∨ c = 13
    · rw [comL_end hc] at h; cases h; omega
    · rw [comL_step hc] at h
      obtain ⟨k, hk, rfl⟩ := Option.map_eq_some_iff.1 h
      have := comL_lt r k hk
      omega
/-- Spacing at the head of a list: how many bytes, and whether all comments end. -/
def skipL (l : List Nat) : Nat × Bool :=
  match l with
  | [] => (0, true)
  | c :: r =>
    if c = 32 ∨ c = 9 ∨ c = 10 ∨ c = 13 then ((skipL r).1 + 1, (skipL r).2)
    else if c ≠ 35 then (0, true)
    else match _h : comL r with
      | none => (0, false)
      | some m => ((skipL (r.drop m)).1 + (m + 1), (skipL (r.drop m)).2)
termination_by l.length
decreasing_by
  · exact Nat.lt_succ_self _
  · rw [List.length_cons, List.length_drop]; omega
theorem skipL_nil : skipL [] = (0, true) := by rw [skipL]
theorem skipL_space {c : Nat} {r : List Nat} (h : c = 32 ∨ c = 9 ∨ c = 10 ∨ c = 13) : skipL (c :: r) = ((skipL r).1 + 1, (skipL r).2) := by
  conv => lhs; rw [skipL]
  rw [if_pos h]
theorem skipL_stop {c : Nat} {r : List Nat} (h : ¬ (c = 32 ∨ c = 9 ∨ c = 10 ∨ c = 13)) (h2 : c ≠ 35) : skipL (c :: r) = (0, true) := by
  rw [skipL, if_neg h, if_pos h2]
theorem skipL_bad {r : List Nat} (h : comL r = none) : skipL (35 :: r) = (0, false) := by
  rw [skipL, if_neg (by decide), if_neg (by decide)]
  split
  · rfl
  · rename_i h'; rw [h] at h'; cases h'
theorem skipL_com {r : List Nat} {m : Nat} (h : comL r = some m) : skipL (35 :: r) = ((skipL (r.drop m)).1 + (m + 1), (skipL (r.drop m)).2) := by
  conv => lhs; rw [skipL, if_neg (by decide), if_neg (by decide)]
  split
  · rename_i h'; rw [h] at h'; cases h'
  · rename_i m' h'
    rw [h] at h'
    cases h'; rfl
theorem skipL_le : ∀ (n : Nat) (l : List Nat), l.length ≤ n → (skipL l).1 ≤ l.length
  | _, [], _ => by rw [skipL_nil]; exact Nat.le_refl _
  | 0, c :: r, h => absurd h (by rw [List.length_cons]; omega)
  | n + 1, c :: r, h => by
    rw [List.length_cons] at h ⊢
    by_cases h1 : c = 32 ∨ c = 9 ∨ c = 10 ∨ c = 13
    · rw [skipL_space h1]
      have := skipL_le n r (by omega)
      show (skipL r).1 + 1 ≤ _
      omega
    · by_cases h2 : c = 35
      · subst h2
        cases hc : comL r with
        | none => rw [skipL_bad hc]; exact Nat.zero_le _
        | some m =>
          rw [skipL_com hc]
          have h3 := comL_lt _ _ hc
          have := skipL_le n (r.drop m) (by rw [List.length_drop]; omega)
          rw [List.length_drop] at this
          show (skipL (r.drop m)).1 + (m + 1) ≤ _
          omega
      · rw [skipL_stop h1 h2]; exact Nat.zero_le _
/-- How many bytes of an identifier stand at the head. -/
def idL : Bool → List Nat → Nat
  | _, [] => 0
  | first, c :: r => if letB c first then idL false r + 1 else 0
theorem idL_yes {first : Bool} {c : Nat} {r : List Nat} (h : letB c first = true) : idL first (c :: r) = idL false r + 1 := by
  show (if letB c first then idL false r + 1 else 0) = _
  rw [if_pos h]
theorem idL_no {first : Bool} {c : Nat} {r : List Nat} (h : letB c first = false) : idL first (c :: r) = 0 := by
  show (if letB c first then idL false r + 1 else 0) = _
  rw [h]; rfl
theorem idL_le : ∀ (l : List Nat) (first : Bool), idL first l ≤ l.length
  | [], _ => Nat.le_refl _
  | c :: r, first => by
    cases h : letB c first
    · rw [idL_no h]; exact Nat.zero_le _
    · rw [idL_yes h, List.length_cons]
      have := idL_le r false
      omega
/-- The ranges of a class behind its opening: what they hold, and how many bytes with the closing. -/
def clsL (l : List Nat) : Option (List (Nat × Nat) × Nat) :=
  match l with
  | [] => none
  | c :: r =>
    if c = 93 then some ([], 1) else
    match _h : rdl (c :: r) with
    | none => none
    | some (lo, n) =>
      match (c :: r).drop n with
      | 45 :: t =>
        match rdl t with
        | none => (clsL ((c :: r).drop n)).map fun x => ((lo, lo) :: x.1, n + x.2)
        | some (hi, m) => (clsL ((c :: r).drop (n + 1 + m))).map fun x => ((lo, hi) :: x.1, n + 1 + m + x.2)
      | _ => (clsL ((c :: r).drop n)).map fun x => ((lo, lo) :: x.1, n + x.2)
termination_by l.length
decreasing_by
  all_goals
    have := rdl_len _ _ _ _h
    rw [List.length_drop]; omega
/-- The characters of a literal behind its opening, up to the first that begins with q: their bytes, and how many bytes with the closing. -/
def litE (q : Nat) (l : List Nat) : Option (List Nat × Nat) :=
  match l with
  | [] => none
  | d :: r =>
    if d = q then some ([], 1) else
    match _h : rdl (d :: r) with
    | none => none
    | some (c, n) => (litE q ((d :: r).drop n)).map fun x => (c :: x.1, n + x.2)
termination_by l.length
decreasing_by exact rdl_drop_lt _h
/-- Is a byte in one of some ranges? -/
def inRs (rs : List (Nat × Nat)) (i : Nat) : Bool := rs.any fun r => decide (r.1 ≤ i ∧ i ≤ r.2)
theorem clsL_nil : clsL [] = none := by rw [clsL]
theorem clsL_end {r : List Nat} : clsL (93 :: r) = some ([], 1) := by rw [clsL, if_pos rfl]
theorem clsL_bad {c : Nat} {r : List Nat} (h : rdl (c :: r) = none) (hc : c ≠ 93) : clsL (c :: r) = none := by
  rw [clsL, if_neg hc]
  split
  · rfl
  · rename_i h'; rw [h] at h'; cases h'
theorem clsL_range {c lo n hi m : Nat} {r t : List Nat} (h : rdl (c :: r) = some (lo, n)) (hc : c ≠ 93) (hd : (c :: r).drop n = 45 :: t) (ht : rdl t = some (hi, m)) :
    clsL (c :: r) = (clsL ((c :: r).drop (n + 1 + m))).map fun x => ((lo, hi) :: x.1, n + 1 + m + x.2) := by
  conv => lhs; rw [clsL]
  rw [if_neg hc]
  split
  · rename_i h'; rw [h] at h'; cases h'
  · rename_i lo' n' h'
    rw [h] at h'
    obtain ⟨rfl, rfl⟩ := Prod.mk.inj (Option.some.inj h')
    split
    · rename_i t' h2
      rw [hd] at h2
      obtain rfl := (List.cons.inj h2).2
      split
      · rename_i h3; rw [ht] at h3; cases h3
      · rename_i hi' m' h3
        rw [ht] at h3
        obtain ⟨rfl, rfl⟩ := Prod.mk.inj (Option.some.inj h3)
        rfl
    · rename_i h2
      exact absurd hd (h2 t)
theorem clsL_one {c lo n : Nat} {r : List Nat} (h : rdl (c :: r) = some (lo, n)) (hc : c ≠ 93) (hd : ∀ t, (c :: r).drop n = 45 :: t → rdl t = none) :
    clsL (c :: r) = (clsL ((c :: r).drop n)).map fun x => ((lo, lo) :: x.1, n + x.2) := by
  conv => lhs; rw [clsL]
  rw [if_neg hc]
  split
  · rename_i h'; rw [h] at h'; cases h'
  · rename_i lo' n' h'
    rw [h] at h'
    obtain ⟨rfl, rfl⟩ := Prod.mk.inj (Option.some.inj h')
    split
    · rename_i t' h2
      have h4 := hd t' h2
      split
      · rfl
      · rename_i hi' m' h3
        rw [h4] at h3; cases h3
    · rfl
theorem litE_nil (q : Nat) : litE q [] = none := by rw [litE]
theorem litE_end {q : Nat} {r : List Nat} : litE q (q :: r) = some ([], 1) := by rw [litE, if_pos rfl]
theorem litE_bad {q d : Nat} {r : List Nat} (h : rdl (d :: r) = none) (hd : d ≠ q) : litE q (d :: r) = none := by
  rw [litE, if_neg hd]
  split
  · rfl
  · rename_i h'; rw [h] at h'; cases h'
theorem litE_step {q d c n : Nat} {r : List Nat} (h : rdl (d :: r) = some (c, n)) (hd : d ≠ q) : litE q (d :: r) = (litE q ((d :: r).drop n)).map fun x => (c :: x.1, n + x.2) := by
  conv => lhs; rw [litE]
  rw [if_neg hd]
  split
  · rename_i h'; rw [h] at h'; cases h'
  · rename_i c' n' h'
    rw [h] at h'
    obtain ⟨rfl, rfl⟩ := Prod.mk.inj (Option.some.inj h')
    rfl
theorem litE_map (o : Option (List Nat × Nat)) (acc : List Nat) (a c n : Nat) :
    (o.map fun x => (c :: x.1, n + x.2)).map (fun x => (acc ++ x.1, a + x.2)) = o.map fun x => ((acc ++ [c]) ++ x.1, (a + n) + x.2) := by
  cases o with
  | none => rfl
  | some x => simp; omega
theorem clsL_map (o : Option (List (Nat × Nat) × Nat)) (acc : List (Nat × Nat)) (a n : Nat) (p : Nat × Nat) :
    (o.map fun x => (p :: x.1, n + x.2)).map (fun x => (acc ++ x.1, a + x.2)) = o.map fun x => ((acc ++ [p]) ++ x.1, (a + n) + x.2) := by
  cases o with
  | none => rfl
  | some x => simp; omega
theorem inRs_snoc (rs : List (Nat × Nat)) (p : Nat × Nat) (i : Nat) : inRs (rs ++ [p]) i = (inRs rs i || decide (p.1 ≤ i ∧ i ≤ p.2)) := by
  unfold inRs; rw [List.any_append]; simp
/-- A token: its kind, its index, its text, its set. -/
structure Tok where
  kind : Nat
  at_ : Nat
  text : List Nat
  rs : List (Nat × Nat)
/-- The place of a byte in a list, counted from n on. -/
def idxL (n : Nat) : List Nat → Nat → Option Nat
  | [], _ => none
  | x :: r, c => if x = c then some n else idxL (n + 1) r c
theorem idxL_yes {n x c : Nat} {r : List Nat} (h : x = c) : idxL n (x :: r) c = some n := by
  show (if x = c then some n else idxL (n + 1) r c) = _
  rw [if_pos h]
theorem idxL_no {n x c : Nat} {r : List Nat} (h : ¬ x = c) : idxL n (x :: r) c = idxL (n + 1) r c := by
  show (if x = c then some n else idxL (n + 1) r c) = _
  rw [if_neg h]
/-- The signs / & ! ? * + ( ) . -/
def sigs : List Nat := [47, 38, 33, 63, 42, 43, 40, 41, 46]
/-- The kind of a sign. -/
def signK (c : Nat) : Option Nat := idxL 3 sigs c
/-- The token that begins a list, at index k of the string: with its end; or nothing. -/
def tokL (k : Nat) : List Nat → Option (Tok × Nat)
  | [] => some (⟨0, k, [], []⟩, k)
  | c :: r =>
    if letB c true then some (⟨1, k, (c :: r).take (idL true (c :: r)), []⟩, k + idL true (c :: r))
    else if c = 60 ∧ r.head? = some 45 then some (⟨2, k, [], []⟩, k + 2)
    else match signK c with
      | some i => some (⟨i, k, [], []⟩, k + 1)
      | none =>
        if c = 91 then (clsL r).map fun x => (⟨13, k, [], x.1⟩, k + 1 + x.2)
        else if c = 39 ∨ c = 34 then (litE c r).map fun x => (⟨12, k, x.1, []⟩, k + 1 + x.2)
        else none
theorem tokL_nil (k : Nat) : tokL k [] = some (⟨0, k, [], []⟩, k) := rfl
theorem tokL_cons (k c : Nat) (r : List Nat) : tokL k (c :: r) =
    if letB c true then some (⟨1, k, (c :: r).take (idL true (c :: r)), []⟩, k + idL true (c :: r))
    else if c = 60 ∧ r.head? = some 45 then some (⟨2, k, [], []⟩, k + 2)
    else match signK c with
      | some i => some (⟨i, k, [], []⟩, k + 1)
      | none =>
        if c = 91 then (clsL r).map fun x => (⟨13, k, [], x.1⟩, k + 1 + x.2)
        else if c = 39 ∨ c = 34 then (litE c r).map fun x => (⟨12, k, x.1, []⟩, k + 1 + x.2)
        else none := rfl
theorem tokL_id {k c : Nat} {r : List Nat} (h : letB c true = true) : tokL k (c :: r) = some (⟨1, k, (c :: r).take (idL true (c :: r)), []⟩, k + idL true (c :: r)) := by
  rw [tokL_cons, if_pos h]
theorem tokL_arrow {k c : Nat} {r : List Nat} (h1 : letB c true = false) (h2 : c = 60 ∧ r.head? = some 45) : tokL k (c :: r) = some (⟨2, k, [], []⟩, k + 2) := by
  rw [tokL_cons, h1, if_neg (by decide), if_pos h2]
theorem tokL_sign {k c i : Nat} {r : List Nat} (h1 : letB c true = false) (h2 : ¬ (c = 60 ∧ r.head? = some 45)) (h3 : signK c = some i) : tokL k (c :: r) = some (⟨i, k, [], []⟩, k + 1) := by
  rw [tokL_cons, h1, if_neg (by decide), if_neg h2, h3]
theorem tokL_cls {k : Nat} {r : List Nat} : tokL k (91 :: r) = (clsL r).map fun x => (⟨13, k, [], x.1⟩, k + 1 + x.2) := rfl
theorem tokL_lit {k c : Nat} {r : List Nat} (h : c = 39 ∨ c = 34) : tokL k (c :: r) = (litE c r).map fun x => (⟨12, k, x.1, []⟩, k + 1 + x.2) := by
  rcases h with rfl | rfl <;> rfl
theorem tokL_bad {k c : Nat} {r : List Nat} (h1 : letB c true = false) (h2 : ¬ (c = 60 ∧ r.head? = some 45)) (h3 : signK c = none) (h4 : c ≠ 91) (h5 : ¬ (c = 39 ∨ c = 34)) : tokL k (c :: r) = none := by
  rw [tokL_cons, h1, if_neg (by decide), if_neg h2, h3]
  show (if c = 91 then _ else if c = 39 ∨ c = 34 then _ else none) = none
  rw [if_neg h4, if_neg h5]
/-- The next token from index p on: the token and its end, or the index of the first wrong byte. -/
def nextL (l : List Nat) (p : Nat) : Except Nat (Tok × Nat) :=
  if (skipL (l.drop p)).2 then
    match tokL (p + (skipL (l.drop p)).1) (l.drop (p + (skipL (l.drop p)).1)) with
    | some x => .ok x
    | none => .error (p + (skipL (l.drop p)).1)
  else .error (p + (skipL (l.drop p)).1)
end Go.Proofs.Ytklimoepkifnhaa
