/- Plain facts on the runs of a set of numbers below 256. Nothing here speaks of a program. -/
import Derived.Test.YtklimoepkifnhaaMembers
namespace Go.Proofs.Ytklimoepkifnhaa
/-- one more member: it prolongs the last run, or begins one -/
def rstep (l : List (Nat × Nat)) (c : Nat) : List (Nat × Nat) :=
  match l.getLast? with
  | none => [(c, c)]
  | some (a, b) => if b = (c + 255) % 256 then l.dropLast ++ [(a, c)] else l ++ [(c, c)]
def runsTo (f : Nat → Bool) : Nat → List (Nat × Nat)
  | 0 => []
  | k + 1 => if f k then rstep (runsTo f k) k else runsTo f k
theorem rstep_nil (c : Nat) : rstep [] c = [(c, c)] := rfl
theorem rstep_snoc (l : List (Nat × Nat)) (a b c : Nat) : rstep (l ++ [(a, b)]) c = if b = (c + 255) % 256 then l ++ [(a, c)] else l ++ [(a, b)] ++ [(c, c)] := by
  unfold rstep; rw [List.getLast?_append]; simp
theorem fold_runs (f : Nat → Bool) (k : Nat) : (memb f k).foldl rstep [] = runsTo f k := by
  induction k with
  | zero => rfl
  | succ k ih =>
    rw [memb_succ, List.foldl_append, ih]
    show _ = if f k then rstep (runsTo f k) k else runsTo f k
    cases h : f k <;> simp
theorem snoc_or (l : List (Nat × Nat)) : l = [] ∨ ∃ l' a b, l = l' ++ [(a, b)] := by
  cases h : l.getLast? with
  | none => exact .inl (List.getLast?_eq_none_iff.1 h)
  | some x => obtain ⟨a, b⟩ := x; obtain ⟨ys, hy⟩ := List.getLast?_eq_some_iff.1 h; exact .inr ⟨ys, a, b, hy⟩
/-- the end of the last run is a member, and so are all behind the last run's start -/
theorem runs_last (f : Nat → Bool) : ∀ (k : Nat) (l : List (Nat × Nat)) (a b : Nat), runsTo f k = l ++ [(a, b)] → f b = true ∧ b < k := by
  intro k
  induction k with
  | zero => intro l a b h; simp [runsTo] at h
  | succ k ih =>
    intro l a b h
    unfold runsTo at h
    cases hf : f k
    · rw [hf] at h; simp at h
      have := ih l a b h
      exact ⟨this.1, by omega⟩
    · rw [hf, if_pos rfl] at h
      rcases snoc_or (runsTo f k) with h0 | ⟨l', a', b', h1⟩
      · rw [h0, rstep_nil] at h
        have := congrArg List.getLast? h
        simp at this
        rw [← this.2]; exact ⟨hf, by omega⟩
      · rw [h1, rstep_snoc] at h
        split at h
        · have := congrArg List.getLast? h
          simp at this
          rw [← this.2]; exact ⟨hf, by omega⟩
        · have := congrArg List.getLast? h
          simp at this
          rw [← this.2]; exact ⟨hf, by omega⟩
theorem runs_one (f : Nat → Bool) (c : Nat) (hc : c < 256) (h0 : c = 0 ∨ f (c - 1) = false) (hf : f c = true) : runsTo f (c + 1) = runsTo f c ++ [(c, c)] := by
  show (if f c then rstep (runsTo f c) c else _) = _
  rw [hf, if_pos rfl]
  rcases snoc_or (runsTo f c) with h | ⟨l', a', b', h1⟩
  · rw [h]; rfl
  · obtain ⟨hb, hlt⟩ := runs_last f c l' a' b' h1
    rw [h1, rstep_snoc, if_neg]
    intro e
    have hcp : 0 < c := by omega
    have : b' = c - 1 := by omega
    rcases h0 with h | h
    · omega
    · rw [← this, hb] at h; cases h
theorem runs_block (f : Nat → Bool) (c : Nat) (h0 : c = 0 ∨ f (c - 1) = false) : ∀ (m : Nat), c + m < 256 → (∀ i, c ≤ i → i ≤ c + m → f i = true) → runsTo f (c + m + 1) = runsTo f c ++ [(c, c + m)] := by
  intro m
  induction m with
  | zero => intro hc hf; exact runs_one f c hc h0 (hf c (Nat.le_refl _) (by omega))
  | succ m ih =>
    intro hc hf
    have h := ih (by omega) (fun i h1 h2 => hf i h1 (by omega))
    show (if f (c + (m + 1)) then rstep (runsTo f (c + m + 1)) (c + (m + 1)) else _) = _
    rw [hf _ (by omega) (Nat.le_refl _), if_pos rfl, h, rstep_snoc, if_pos (by omega)]
theorem runs_end (f : Nat → Bool) (k d : Nat) (h0 : k = 0 ∨ f (k - 1) = false) (hkd : k < d) (hd : d ≤ 256) (hf : ∀ i, k ≤ i → i < d → f i = true) : runsTo f d = runsTo f k ++ [(k, d - 1)] := by
  obtain ⟨m, rfl⟩ : ∃ m, d = k + m + 1 := ⟨d - k - 1, by omega⟩
  exact runs_block f k h0 m (by omega) fun i h1 h2 => hf i h1 (by omega)
theorem runs_skip (f : Nat → Bool) (d : Nat) (h : f d = false) : runsTo f (d + 1) = runsTo f d := by
  show (if f d then _ else _) = _
  rw [h]; rfl
theorem runs_len (f : Nat → Bool) (k : Nat) : (runsTo f k).length ≤ k := by
  induction k with
  | zero => simp [runsTo]
  | succ k ih =>
    unfold runsTo
    cases hf : f k
    · simp; omega
    · simp only [if_true]
      rcases snoc_or (runsTo f k) with h | ⟨l', a', b', h1⟩
      · rw [h]; simp [rstep]
      · rw [h1] at ih ⊢
        rw [rstep_snoc]
        split <;> simp at ih ⊢ <;> omega
/-- the ends of the runs are bytes -/
theorem runs_mem (f : Nat → Bool) (k : Nat) (hk : k ≤ 256) : ∀ x, x ∈ runsTo f k → x.1 < 256 ∧ x.2 < 256 := by
  induction k with
  | zero => intro x hx; simp [runsTo] at hx
  | succ k ih =>
    intro x hx
    have ih := ih (by omega)
    unfold runsTo at hx
    cases hf : f k
    · rw [hf] at hx; simp at hx; exact ih x hx
    · rw [hf, if_pos rfl] at hx
      rcases snoc_or (runsTo f k) with h | ⟨l', a', b', h1⟩
      · rw [h, rstep_nil] at hx; simp at hx; subst hx; exact ⟨by omega, by omega⟩
      · rw [h1] at ih
        rw [h1, rstep_snoc] at hx
        split at hx
        · rw [List.mem_append] at hx
          rcases hx with hx | hx
          · exact ih x (List.mem_append_left _ hx)
          · simp at hx; subst hx; exact ⟨(ih (a', b') (by simp)).1, by show k < 256; omega⟩
        · rw [List.mem_append] at hx
          rcases hx with hx | hx
          · exact ih x hx
          · simp at hx; subst hx; exact ⟨by show k < 256; omega, by show k < 256; omega⟩
def runCells (l : List (Nat × Nat)) : List Value := l.flatMap fun x => [.int .u8 (x.1 : Int), .int .u8 (x.2 : Int)]
theorem runCells_snoc (l : List (Nat × Nat)) (a b : Nat) : runCells (l ++ [(a, b)]) = runCells l ++ [.int .u8 (a : Int), .int .u8 (b : Int)] := by
  unfold runCells; rw [List.flatMap_append]; rfl
theorem runCells_len (l : List (Nat × Nat)) : (runCells l).length = l.length * 2 := by
  induction l with
  | nil => rfl
  | cons x l ih => unfold runCells at *; rw [List.flatMap_cons, List.length_append, ih]; simp; omega
end Go.Proofs.Ytklimoepkifnhaa
