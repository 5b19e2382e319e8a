/- Plain facts: the runs of a set hold just its members, and lie apart. Nothing here speaks of a program. -/
import Derived.Test.YtcfjclcbfhajcaaRunMath
import Derived.Test.YtcfjclcbfhajcaaSetMake
import Derived.Test.YtcfjclcbfhajcaaSetRef
namespace Go.Proofs.Ytcfjclcbfhajcaa
def inRuns (l : List (Nat × Nat)) (j : Nat) : Bool := l.any fun x => decide (x.1 ≤ j) && decide (j ≤ x.2)
theorem inRuns_snoc (l : List (Nat × Nat)) (a b : Nat) : (fun j => inRuns (l ++ [(a, b)]) j) = fun j => inRuns l j || inR a (b + 1) j := by
  funext j; unfold inRuns inR; rw [List.any_append]; simp [Nat.lt_succ_iff]
/-- all that is known of the runs below k -/
def RunsOk (f : Nat → Bool) (k : Nat) (l : List (Nat × Nat)) : Prop :=
  (∀ j, inRuns l j = (f j && decide (j < k))) ∧ (∀ l' a b, l = l' ++ [(a, b)] → a ≤ b ∧ b < k) ∧ ∀ i x y, l[i]? = some x → l[i + 1]? = some y → x.2 + 1 < y.1
theorem runs_ok (f : Nat → Bool) (k : Nat) (hk : k ≤ 256) : RunsOk f k (runsTo f k) := by
  induction k with
  | zero => exact ⟨fun j => by simp [inRuns, runsTo], fun l' a b h => by simp [runsTo] at h, fun i x y h => by simp [runsTo] at h⟩
  | succ k ih =>
    obtain ⟨h1, h2, h3⟩ := ih (by omega)
    have hstep : runsTo f (k + 1) = if f k then rstep (runsTo f k) k else runsTo f k := rfl
    cases hf : f k
    · rw [hstep, hf]
      simp only [Bool.false_eq_true, if_false]
      refine ⟨fun j => ?_, fun l' a b h => ?_, h3⟩
      · rw [h1 j]
        by_cases hj : j = k
        · subst hj; simp [hf]
        · have : decide (j < k) = decide (j < k + 1) := by rw [decide_eq_decide]; omega
          rw [this]
      · have := h2 l' a b h; exact ⟨this.1, by omega⟩
    · rw [hstep, hf, if_pos rfl]
      have hlast := runs_last f k
      have gap : ∀ (l : List (Nat × Nat)) (a : Nat) (hl : ∀ i x y, l[i]? = some x → l[i + 1]? = some y → x.2 + 1 < y.1) (hb : ∀ l' a' b', l = l' ++ [(a', b')] → b' + 1 < a) (c : Nat),
          ∀ i x y, (l ++ [(a, c)])[i]? = some x → (l ++ [(a, c)])[i + 1]? = some y → x.2 + 1 < y.1 := by
        intro l a hl hb c i x y hx hy
        by_cases hi : i + 1 < l.length
        · rw [List.getElem?_append_left (by omega)] at hx hy; exact hl i x y hx hy
        · by_cases hi2 : i + 1 = l.length
          · rw [List.getElem?_append_left (by omega)] at hx
            rw [List.getElem?_append_right (by omega), show i + 1 - l.length = 0 from by omega] at hy
            cases hy
            rcases snoc_or l with h | ⟨l', a', b', h⟩
            · rw [h] at hi2; simp at hi2
            · have hxe : x = (a', b') := by
                rw [h] at hi2 hx
                simp at hi2
                rw [List.getElem?_append_right (by omega), show i - l'.length = 0 from by omega] at hx
                cases hx; rfl
              rw [hxe]; exact hb l' a' b' h
          · rw [List.getElem?_append_right (by omega)] at hy
            obtain ⟨m, hm⟩ : ∃ m, i + 1 - l.length = m + 1 := ⟨i - l.length, by omega⟩
            rw [hm] at hy; simp at hy
      rcases snoc_or (runsTo f k) with h | ⟨l', a, b, h⟩
      · rw [h, rstep_nil]
        rw [h] at h1
        refine ⟨fun j => ?_, fun l' a b h => ?_, fun i x y _ hy => by simp at hy⟩
        · have := h1 j
          simp only [inRuns, List.any_nil, List.any_cons, Bool.or_false] at this ⊢
          by_cases hj : j = k
          · subst hj; simp [hf]
          · have e : (decide (k ≤ j) && decide (j ≤ k)) = false := by rw [Bool.and_eq_false_iff]; simp; omega
            have e2 : decide (j < k) = decide (j < k + 1) := by rw [decide_eq_decide]; omega
            rw [e, ← e2]; exact this
        · have := congrArg List.getLast? h
          simp at this
          obtain ⟨rfl, rfl⟩ := this; exact ⟨Nat.le_refl _, by omega⟩
      · obtain ⟨hab, hbk⟩ := h2 l' a b h
        rw [h, rstep_snoc]
        rw [h] at h1 h3
        have hl'3 : ∀ i x y, l'[i]? = some x → l'[i + 1]? = some y → x.2 + 1 < y.1 := fun i x y hx hy => by
          refine h3 i x y ?_ ?_
          · rw [List.getElem?_append_left (List.getElem?_eq_some_iff.1 hx).1]; exact hx
          · rw [List.getElem?_append_left (List.getElem?_eq_some_iff.1 hy).1]; exact hy
        have hl'b : ∀ l'' a' b', l' = l'' ++ [(a', b')] → b' + 1 < a := fun l'' a' b' e => by
          refine h3 l''.length (a', b') (a, b) ?_ ?_
          · rw [e]; simp
          · rw [e]; simp
        split
        · rename_i hb
          have hbk' : b + 1 = k := by omega
          refine ⟨fun j => ?_, fun l'' a' b' e => ?_, gap l' a hl'3 hl'b k⟩
          · have e1 := congrFun (inRuns_snoc l' a k) j
            have e2 := congrFun (inRuns_snoc l' a b) j
            have := h1 j
            rw [e2] at this
            rw [e1]
            by_cases hj : j = k
            · subst hj
              have : inR a (j + 1) j = true := by unfold inR; simp; omega
              rw [this, hf]; simp
            · have e3 : inR a (k + 1) j = inR a (b + 1) j := by unfold inR; rw [Bool.eq_iff_iff]; simp; omega
              have e4 : decide (j < k + 1) = decide (j < k) := by rw [decide_eq_decide]; omega
              rw [e3, e4]; exact this
          · have := congrArg List.getLast? e
            simp at this
            obtain ⟨rfl, rfl⟩ := this; exact ⟨by omega, by omega⟩
        · rename_i hb
          refine ⟨fun j => ?_, fun l'' a' b' e => ?_, gap _ k h3 (fun l'' a' b' e => ?_) k⟩
          · have e1 := congrFun (inRuns_snoc (l' ++ [(a, b)]) k k) j
            rw [e1, h1 j]
            by_cases hj : j = k
            · subst hj
              have : inR j (j + 1) j = true := by unfold inR; simp
              rw [this, hf]; simp
            · have e3 : inR k (k + 1) j = false := by unfold inR; rw [Bool.and_eq_false_iff]; simp; omega
              have e4 : decide (j < k + 1) = decide (j < k) := by rw [decide_eq_decide]; omega
              rw [e3, e4]; simp
          · have := congrArg List.getLast? e
            simp at this
            obtain ⟨rfl, rfl⟩ := this; exact ⟨Nat.le_refl _, by omega⟩
          · have := congrArg List.getLast? e
            simp at this
            obtain ⟨-, rfl⟩ := this
            omega
theorem lset_memb (f : Nat → Bool) (j : Nat) (hj : j < 256) : lset ((memb f 256).map fun k : Nat => (k : Int)) j = f j := by
  unfold lset
  rw [List.any_map, Bool.eq_iff_iff, List.any_eq_true]
  constructor
  · rintro ⟨x, hx, he⟩
    have : j = x := by simpa using he
    subst this
    unfold memb at hx
    exact (List.mem_filter.1 hx).2
  · intro h
    exact ⟨j, by unfold memb; exact List.mem_filter.2 ⟨List.mem_range.2 hj, h⟩, by simp⟩
end Go.Proofs.Ytcfjclcbfhajcaa
