/- The tokens of a string as a plain function; each token but the last moves on. No walk. -/
import Derived.Test.YtklimoepkifnhaaLexMath
namespace Go.Proofs.Ytklimoepkifnhaa
theorem litE_len (q : Nat) : ∀ (n : Nat) (l : List Nat), l.length ≤ n → ∀ b m, litE q l = some (b, m) → 1 ≤ m ∧ m ≤ l.length
  | _, [], _, b, m, h => by rw [litE_nil] at h; cases h
  | 0, d :: r, hn, _, _, _ => absurd hn (by rw [List.length_cons]; omega)
  | n + 1, d :: r, hn, b, m, h => by
    rw [List.length_cons] at hn ⊢
    by_cases hd : d = q
    · subst hd
      rw [litE_end] at h
      cases h; omega
    · cases hr : rdl (d :: r) with
      | none => rw [litE_bad hr hd] at h; cases h
      | some x =>
        obtain ⟨c, k⟩ := x
        have hk := rdl_len _ _ _ hr
        rw [List.length_cons] at hk
        rw [litE_step hr hd] at h
        obtain ⟨⟨b', m'⟩, h', e⟩ := Option.map_eq_some_iff.1 h
        have := litE_len q n _ (by rw [List.length_drop, List.length_cons]; omega) b' m' h'
        rw [List.length_drop, List.length_cons] at this
        obtain ⟨-, rfl⟩ := Prod.mk.inj e
        show 1 ≤ k + m' ∧ k + m' ≤ _
        omega
theorem clsL_len : ∀ (n : Nat) (l : List Nat), l.length ≤ n → ∀ b m, clsL l = some (b, m) → 1 ≤ m ∧ m ≤ l.length
  | _, [], _, b, m, h => by rw [clsL_nil] at h; cases h
  | 0, d :: r, hn, _, _, _ => absurd hn (by rw [List.length_cons]; omega)
  | n + 1, d :: r, hn, b, m, h => by
    rw [List.length_cons] at hn ⊢
    by_cases hd : d = 93
    · subst hd
      rw [clsL_end] at h
      cases h; omega
    · cases hr : rdl (d :: r) with
      | none => rw [clsL_bad hr hd] at h; cases h
      | some x =>
        obtain ⟨c, k⟩ := x
        have hk := rdl_len _ _ _ hr
        rw [List.length_cons] at hk
        by_cases hg : ∃ t hi j, (d :: r).drop k = 45 :: t ∧ rdl t = some (hi, j)
        · obtain ⟨t, hi, j, h1, h2⟩ := hg
          rw [clsL_range hr hd h1 h2] at h
          obtain ⟨⟨b', m'⟩, h', e⟩ := Option.map_eq_some_iff.1 h
          have h3 := rdl_len _ _ _ h2
          have h4 := congrArg List.length h1
          rw [List.length_drop, List.length_cons, List.length_cons] at h4
          have := clsL_len n _ (by rw [List.length_drop, List.length_cons]; omega) b' m' h'
          rw [List.length_drop, List.length_cons] at this
          obtain ⟨-, rfl⟩ := Prod.mk.inj e
          show 1 ≤ k + 1 + j + m' ∧ k + 1 + j + m' ≤ _
          omega
        · rw [clsL_one hr hd (fun t ht => by
            cases h2 : rdl t with
            | none => rfl
            | some y => exact absurd ⟨t, y.1, y.2, ht, h2⟩ hg)] at h
          obtain ⟨⟨b', m'⟩, h', e⟩ := Option.map_eq_some_iff.1 h
          have := clsL_len n _ (by rw [List.length_drop, List.length_cons]; omega) b' m' h'
          rw [List.length_drop, List.length_cons] at this
          obtain ⟨-, rfl⟩ := Prod.mk.inj e
          show 1 ≤ k + m' ∧ k + m' ≤ _
          omega
theorem idxL_ge : ∀ (l : List Nat) (n c i : Nat), idxL n l c = some i → n ≤ i
  | [], n, c, i, h => by cases h
  | x :: r, n, c, i, h => by
    by_cases hx : x = c
    · rw [idxL_yes hx] at h; cases h; omega
    · rw [idxL_no hx] at h
      have := idxL_ge r (n + 1) c i h
      omega
/-- A token that is not the end has bytes. -/
theorem tokL_moves (k : Nat) (l : List Nat) (t : Tok) (n : Nat) (h : tokL k l = some (t, n)) : (t.kind = 0 ∧ l = []) ∨ (t.kind ≠ 0 ∧ k < n ∧ n ≤ k + l.length) := by
  cases l with
  | nil =>
    rw [tokL_nil] at h
    cases h
    exact Or.inl ⟨rfl, rfl⟩
  | cons c r =>
    right
    rw [List.length_cons]
    cases hl : letB c true
    · by_cases ha : c = 60 ∧ r.head? = some 45
      · rw [tokL_arrow hl ha] at h
        cases h
        have : r ≠ [] := fun e => by rw [e] at ha; cases ha.2
        have := List.length_pos_iff.2 this
        exact ⟨by show 2 ≠ 0; decide, by omega, by omega⟩
      · cases hs : signK c with
        | some i =>
          rw [tokL_sign hl ha hs] at h
          cases h
          have := idxL_ge _ _ _ _ hs
          exact ⟨by show i ≠ 0; omega, by omega, by omega⟩
        | none =>
          by_cases h91 : c = 91
          · subst h91
            rw [tokL_cls] at h
            obtain ⟨⟨b, m⟩, h', e⟩ := Option.map_eq_some_iff.1 h
            have := clsL_len _ r (Nat.le_refl _) b m h'
            cases e
            exact ⟨by show 13 ≠ 0; decide, by omega, by omega⟩
          · by_cases hq : c = 39 ∨ c = 34
            · rw [tokL_lit hq] at h
              obtain ⟨⟨b, m⟩, h', e⟩ := Option.map_eq_some_iff.1 h
              have := litE_len c _ r (Nat.le_refl _) b m h'
              cases e
              exact ⟨by show 12 ≠ 0; decide, by omega, by omega⟩
            · rw [tokL_bad hl ha hs h91 hq] at h; cases h
    · rw [tokL_id hl] at h
      have h1 := idL_le (c :: r) true
      rw [List.length_cons] at h1
      have h2 : 1 ≤ idL true (c :: r) := by rw [idL_yes hl]; omega
      cases h
      exact ⟨by show 1 ≠ 0; decide, by omega, by omega⟩
theorem nextL_moves (l : List Nat) (p : Nat) (hp : p ≤ l.length) (t : Tok) (n : Nat) (h : nextL l p = .ok (t, n)) : (t.kind = 0 ∧ n = l.length) ∨ (t.kind ≠ 0 ∧ p < n ∧ n ≤ l.length) := by
  unfold nextL at h
  have hle := skipL_le _ (l.drop p) (Nat.le_refl _)
  rw [List.length_drop] at hle
  split at h
  · generalize (skipL (l.drop p)).1 = m at h hle
    cases ht : tokL (p + m) (l.drop (p + m)) with
    | none => rw [ht] at h; cases h
    | some x =>
      rw [ht] at h
      cases h
      rcases tokL_moves _ _ _ _ ht with ⟨h1, h2⟩ | ⟨h1, h2, h3⟩
      · left
        refine ⟨h1, ?_⟩
        rw [h2, tokL_nil] at ht
        have h4 := List.drop_eq_nil_iff.1 h2
        cases ht
        omega
      · right
        rw [List.length_drop] at h3
        exact ⟨h1, by omega, by omega⟩
  · cases h
/-- All tokens from an index on, or the first error. -/
def toksL (l : List Nat) (p : Nat) : Except Nat (List Tok) :=
  match nextL l p with
  | .error k => .error k
  | .ok (t, n) => if t.kind = 0 then .ok [t] else if _h : p < n ∧ n ≤ l.length then (toksL l n).map (t :: ·) else .ok [t]
termination_by l.length - p
decreasing_by omega
theorem toksL_bad {l : List Nat} {p k : Nat} (h : nextL l p = .error k) : toksL l p = .error k := by
  rw [toksL, h]
theorem toksL_end {l : List Nat} {p n : Nat} {t : Tok} (h : nextL l p = .ok (t, n)) (ht : t.kind = 0) : toksL l p = .ok [t] := by
  rw [toksL, h]
  show (if t.kind = 0 then _ else _) = _
  rw [if_pos ht]
theorem toksL_step {l : List Nat} {p n : Nat} {t : Tok} (h : nextL l p = .ok (t, n)) (ht : t.kind ≠ 0) (hn : p < n ∧ n ≤ l.length) : toksL l p = (toksL l n).map (t :: ·) := by
  conv => lhs; rw [toksL, h]
  show (if t.kind = 0 then _ else if _h : p < n ∧ n ≤ l.length then _ else _) = _
  rw [if_neg ht, dif_pos hn]
theorem toksL_map (o : Except Nat (List Tok)) (acc : List Tok) (t : Tok) : (o.map (t :: ·)).map (acc ++ ·) = o.map ((acc ++ [t]) ++ ·) := by
  cases o with
  | error k => rfl
  | ok x => show Except.ok _ = Except.ok _; simp
end Go.Proofs.Ytklimoepkifnhaa
