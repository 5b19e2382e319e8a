/- Names and signs, and the one token that a list is. No walk. -/
import Derived.Test.YtipokoalcbaolaaDoorLexPToks
namespace Go.Proofs.YtipokoalcbaolaaDoor
theorem letB_nospace {c : Nat} (h : letB c true = true) : ¬ (c = 32 ∨ c = 9 ∨ c = 10 ∨ c = 13) ∧ c ≠ 35 := by
  constructor
  · rintro (rfl | rfl | rfl | rfl) <;> exact absurd h (by decide)
  · rintro rfl; exact absurd h (by decide)
theorem next_name {l : List Nat} (h : nameB l = true) : nextL l 0 = .ok (⟨1, 0, l, []⟩, l.length) ∧ 0 < l.length := by
  rw [nameB_idL, decide_eq_true_iff] at h
  obtain ⟨h0, h1⟩ := h
  cases l with
  | nil => exact absurd h0 (Nat.lt_irrefl 0)
  | cons c r =>
    have hl : letB c true = true := by
      cases hh : letB c true
      · rw [idL_no hh] at h0; exact absurd h0 (Nat.lt_irrefl 0)
      · rfl
    obtain ⟨s1, s2⟩ := letB_nospace hl
    refine ⟨?_, by rw [List.length_cons]; omega⟩
    rw [nextL_eq, List.drop_zero, skipL_stop s1 s2]
    show (match tokL 0 (c :: r) with | some x => Except.ok x | none => .error 0) = _
    rw [tokL_id hl, h1, List.take_length]; simp
theorem next_sign {l : List Nat} {i : Nat} (h : eqF 2 sgL l = some i) : nextL l 0 = .ok (⟨i, 0, [], []⟩, l.length) ∧ 0 < l.length ∧ 2 ≤ i ∧ i ≤ 11 := by
  have key : ∀ (c : Nat) (r : List Nat), ¬ (c = 32 ∨ c = 9 ∨ c = 10 ∨ c = 13) → c ≠ 35 → nextL (c :: r) 0 = match tokL 0 (c :: r) with | some x => Except.ok x | none => .error 0 := fun c r s1 s2 => by
    rw [nextL_eq, List.drop_zero, skipL_stop s1 s2]; rfl
  have one : ∀ (x : List Nat) (j : Nat), x ∈ sgL → eqF 2 sgL x = some j → nextL x 0 = .ok (⟨j, 0, [], []⟩, x.length) ∧ 0 < x.length ∧ 2 ≤ j ∧ j ≤ 11 := fun x j hx hj => by
    have hx' : x = [60, 45] ∨ x = [47] ∨ x = [38] ∨ x = [33] ∨ x = [63] ∨ x = [42] ∨ x = [43] ∨ x = [40] ∨ x = [41] ∨ x = [46] := by
      simpa [sgL, sigs] using hx
    rcases hx' with rfl | rfl | rfl | rfl | rfl | rfl | rfl | rfl | rfl | rfl
    all_goals
      cases hj
      rw [key _ _ (by decide) (by decide)]
      exact ⟨rfl, by decide, by decide, by decide⟩
  have mem : ∀ (q : List (List Nat)) (n : Nat), eqF n q l = some i → l ∈ q := by
    intro q
    induction q with
    | nil => intro n hh; cases hh
    | cons x q ih =>
      intro n hh
      by_cases e : l = x
      · rw [e]; exact List.mem_cons_self
      · rw [eqF_no e] at hh
        exact List.mem_cons_of_mem _ (ih _ hh)
  exact one l i (mem _ _ h) h
theorem eqF_one : ∀ (q : List Nat) (n c : Nat), eqF n (q.map fun x => [x]) [c] = idxL n q c
  | [], _, _ => rfl
  | x :: q, n, c => by
    rw [List.map_cons]
    by_cases h : x = c
    · rw [idxL_yes h, eqF_yes (by rw [h])]
    · rw [idxL_no h, eqF_no (by simp; exact fun e => h e.symm), eqF_one q]
/-- What a list is whose one token begins at 0 and ends with it. -/
theorem next_whole {l : List Nat} {t : Tok} {n : Nat} (h : nextL l 0 = .ok (t, n)) (ha : t.at_ = 0) (hn : n = l.length) (h0 : 0 < l.length) : (t.kind = 1 → nameB l = true) ∧ (2 ≤ t.kind → t.kind ≤ 11 → eqF 2 sgL l = some t.kind) := by
  rw [nextL_eq, List.drop_zero, Nat.zero_add] at h
  generalize hk : (skipL l).1 = k at h
  have hx : tokL k (l.drop k) = some (t, n) := by
    cases hh : tokL k (l.drop k) with
    | none => rw [hh] at h; cases h
    | some x => rw [hh] at h; cases h; rfl
  have hk0 : k = 0 := by rw [← tokL_at _ _ _ _ hx]; exact ha
  subst hk0
  rw [List.drop_zero] at hx
  cases l with
  | nil => exact absurd h0 (Nat.lt_irrefl 0)
  | cons c r =>
    cases hl : letB c true
    · by_cases har : c = 60 ∧ r.head? = some 45
      · rw [tokL_arrow hl har] at hx
        cases hx
        refine ⟨fun e => absurd e (by show ¬ 2 = 1; decide), fun _ _ => ?_⟩
        rw [List.length_cons] at hn
        obtain ⟨rfl, hr⟩ := har
        match r, hr, hn with
        | [d], hr, _ => cases hr; rfl
      · cases hs : signK c with
        | some i =>
          rw [tokL_sign hl har hs] at hx
          cases hx
          have := idxL_ge _ _ _ _ hs
          refine ⟨fun e => absurd e (by show ¬ i = 1; omega), fun _ _ => ?_⟩
          rw [List.length_cons] at hn
          have hr : r = [] := List.eq_nil_of_length_eq_zero (by omega)
          subst hr
          show eqF 2 ([60, 45] :: sigs.map fun x => [x]) [c] = _
          rw [eqF_no (by simp), eqF_one]
          exact hs
        | none =>
          by_cases h91 : c = 91
          · subst h91
            rw [tokL_cls] at hx
            obtain ⟨x, -, e⟩ := Option.map_eq_some_iff.1 hx
            cases e
            exact ⟨fun e => absurd e (by show ¬ 13 = 1; decide), fun _ e => absurd e (by show ¬ 13 ≤ 11; decide)⟩
          · by_cases hq : c = 39 ∨ c = 34
            · rw [tokL_lit hq] at hx
              obtain ⟨x, -, e⟩ := Option.map_eq_some_iff.1 hx
              cases e
              exact ⟨fun e => absurd e (by show ¬ 12 = 1; decide), fun _ e => absurd e (by show ¬ 12 ≤ 11; decide)⟩
            · rw [tokL_bad hl har hs h91 hq] at hx; cases hx
    · rw [tokL_id hl] at hx
      cases hx
      refine ⟨fun _ => ?_, fun e => absurd e (by show ¬ 2 ≤ 1; decide)⟩
      rw [nameB_idL, decide_eq_true_iff]
      omega
end Go.Proofs.YtipokoalcbaolaaDoor
