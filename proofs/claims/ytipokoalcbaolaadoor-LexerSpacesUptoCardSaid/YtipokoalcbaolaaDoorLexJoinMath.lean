/- What stands ahead of a string moves its tokens; a line end behind it ends them. No walk. -/
import Derived.Test.YtipokoalcbaolaaDoorLexTokMath
namespace Go.Proofs.YtipokoalcbaolaaDoor
theorem numF_nl (r : List Nat) : ∀ (l : List Nat) (k c n : Nat), numF c n ((l ++ 10 :: r).take k) = numF c n (l.take k)
  | [], 0, _, _ => rfl
  | [], k + 1, c, n => by
    show numF c n (10 :: r.take k) = numF c n []
    rw [numF_no _ _ (by decide)]; rfl
  | d :: t, 0, _, _ => rfl
  | d :: t, k + 1, c, n => by
    show numF c n (d :: (t ++ 10 :: r).take k) = numF c n (d :: t.take k)
    cases h : oct d
    · rw [numF_no _ _ h, numF_no _ _ h]
    · rw [numF_yes _ _ h, numF_yes _ _ h, numF_nl r t k]
theorem esc_nl (x r : List Nat) : esc (x ++ 10 :: r) = esc x := by
  cases x with
  | nil => show esc (10 :: r) = (0, 0); rw [esc_cons]; rfl
  | cons d t =>
    show esc (d :: (t ++ 10 :: r)) = _
    rw [esc_cons, esc_cons]
    have h3 := numF_nl r (d :: t) 3 0 0
    have h2 := numF_nl r (d :: t) 2 0 0
    rw [List.cons_append] at h3 h2
    rw [h3, h2]
theorem rdl_nl {x : List Nat} (r : List Nat) (h : x ≠ []) : rdl (x ++ 10 :: r) = rdl x := by
  cases x with
  | nil => exact absurd rfl h
  | cons d t =>
    by_cases hd : d = 92
    · subst hd
      rw [List.cons_append, rdl_esc, rdl_esc, esc_nl]
    · rw [List.cons_append, rdl_plain _ _ hd, rdl_plain _ _ hd]
theorem comL_app (y : List Nat) : ∀ (t : List Nat) (m : Nat), comL t = some m → comL (t ++ y) = some m
  | [], m, h => by cases h
  | c :: r, m, h => by
    rw [List.cons_append]
    by_cases hc : c = 10 ∨ c = 13
    · rw [comL_end hc] at h ⊢; exact h
    · rw [comL_step hc] at h ⊢
      obtain ⟨k, hk, rfl⟩ := Option.map_eq_some_iff.1 h
      rw [comL_app y r k hk]; rfl
theorem idL_nl (r : List Nat) : ∀ (x : List Nat) (f : Bool), idL f (x ++ 10 :: r) = idL f x
  | [], f => by
    have : letB 10 f = false := by cases f <;> rfl
    show idL f (10 :: r) = 0
    rw [idL_no this]
  | c :: t, f => by
    rw [List.cons_append]
    cases h : letB c f
    · rw [idL_no h, idL_no h]
    · rw [idL_yes h, idL_yes h, idL_nl r t]
theorem skipL_nl (r : List Nat) : ∀ (n : Nat) (x : List Nat), x.length ≤ n → (skipL x).2 = true →
    skipL (x ++ 10 :: r) = if (skipL x).1 = x.length then (x.length + 1 + (skipL r).1, (skipL r).2) else skipL x
  | _, [], _, _ => by
    show skipL (10 :: r) = _
    rw [skipL_space (by decide), skipL_nil]
    simp; omega
  | 0, c :: t, h, _ => absurd h (by rw [List.length_cons]; omega)
  | n + 1, c :: t, h, h2 => by
    rw [List.length_cons] at h
    rw [List.cons_append]
    by_cases h1 : c = 32 ∨ c = 9 ∨ c = 10 ∨ c = 13
    · rw [skipL_space h1] at h2 ⊢
      have ih := skipL_nl r n t (by omega) h2
      rw [ih, skipL_space h1, List.length_cons]
      by_cases hz : (skipL t).1 = t.length
      · rw [if_pos hz, if_pos (by show (skipL t).1 + 1 = _; omega)]
        congr 1; show t.length + 1 + (skipL r).1 + 1 = _; omega
      · rw [if_neg hz, if_neg (by show ¬ (skipL t).1 + 1 = _; omega)]
    · by_cases h35 : c = 35
      · subst h35
        cases hc : comL t with
        | none => rw [skipL_bad hc] at h2; cases h2
        | some m =>
          have hm := comL_lt _ _ hc
          rw [skipL_com hc] at h2
          have ih := skipL_nl r n (t.drop m) (by rw [List.length_drop]; omega) h2
          rw [skipL_com (comL_app _ _ _ hc), List.drop_append_of_le_length (by omega), ih, skipL_com hc, List.length_cons, List.length_drop]
          by_cases hz : (skipL (t.drop m)).1 = t.length - m
          · rw [if_pos hz, if_pos (by show (skipL (t.drop m)).1 + (m + 1) = _; omega)]
            congr 1; show t.length - m + 1 + (skipL r).1 + (m + 1) = _; omega
          · rw [if_neg hz, if_neg (by show ¬ (skipL (t.drop m)).1 + (m + 1) = _; omega)]
      · rw [skipL_stop h1 h35, skipL_stop h1 h35, List.length_cons, if_neg (by show ¬ 0 = _; omega)]
theorem litE_nl (q : Nat) (r : List Nat) : ∀ (n : Nat) (x : List Nat), x.length ≤ n → ∀ y, litE q x = some y → litE q (x ++ 10 :: r) = some y
  | _, [], _, y, h => by rw [litE_nil] at h; cases h
  | 0, d :: t, hn, _, _ => absurd hn (by rw [List.length_cons]; omega)
  | n + 1, d :: t, hn, y, h => by
    rw [List.length_cons] at hn
    by_cases hd : d = q
    · subst hd
      rw [litE_end] at h
      rw [List.cons_append, litE_end]; exact h
    · cases hr : rdl (d :: t) with
      | none => rw [litE_bad hr hd] at h; cases h
      | some z =>
        obtain ⟨c, k⟩ := z
        have hk := rdl_len _ _ _ hr
        rw [List.length_cons] at hk
        have hr2 : rdl (d :: (t ++ 10 :: r)) = some (c, k) := by rw [← List.cons_append, rdl_nl r (by simp)]; exact hr
        rw [litE_step hr hd] at h
        obtain ⟨y', h', e⟩ := Option.map_eq_some_iff.1 h
        rw [List.cons_append, litE_step hr2 hd, ← List.cons_append, List.drop_append_of_le_length (by rw [List.length_cons]; omega)]
        rw [litE_nl q r n _ (by rw [List.length_drop, List.length_cons]; omega) y' h', ← e]; rfl
theorem clsL_nl (r : List Nat) : ∀ (n : Nat) (x : List Nat), x.length ≤ n → ∀ y, clsL x = some y → clsL (x ++ 10 :: r) = some y
  | _, [], _, y, h => by rw [clsL_nil] at h; cases h
  | 0, d :: t, hn, _, _ => absurd hn (by rw [List.length_cons]; omega)
  | n + 1, d :: t, hn, y, h => by
    rw [List.length_cons] at hn
    by_cases hd : d = 93
    · subst hd
      rw [clsL_end] at h
      rw [List.cons_append, clsL_end]; exact h
    · cases hr : rdl (d :: t) with
      | none => rw [clsL_bad hr hd] at h; cases h
      | some z =>
        obtain ⟨lo, k⟩ := z
        have hk := rdl_len _ _ _ hr
        rw [List.length_cons] at hk
        have hr2 : rdl (d :: (t ++ 10 :: r)) = some (lo, k) := by rw [← List.cons_append, rdl_nl r (by simp)]; exact hr
        have hdr : ∀ j, j ≤ (d :: t).length → (d :: (t ++ 10 :: r)).drop j = (d :: t).drop j ++ 10 :: r := fun j hj => by rw [← List.cons_append, List.drop_append_of_le_length hj]
        by_cases hg : ∃ u hi j, (d :: t).drop k = 45 :: u ∧ rdl u = some (hi, j)
        · obtain ⟨u, hi, j, h1, h2⟩ := hg
          rw [clsL_range hr hd h1 h2] at h
          obtain ⟨y', h', e⟩ := Option.map_eq_some_iff.1 h
          have hj := rdl_len _ _ _ h2
          have hu := congrArg List.length h1
          rw [List.length_drop, List.length_cons, List.length_cons] at hu
          have hne : u ≠ [] := fun e => by rw [e] at h2; cases h2
          have h1' : (d :: (t ++ 10 :: r)).drop k = 45 :: (u ++ 10 :: r) := by rw [hdr k (by rw [List.length_cons]; omega), h1]; rfl
          rw [List.cons_append, clsL_range hr2 hd h1' (by rw [rdl_nl r hne]; exact h2), hdr _ (by rw [List.length_cons]; omega)]
          rw [clsL_nl r n _ (by rw [List.length_drop, List.length_cons]; omega) y' h', ← e]; rfl
        · have hno : ∀ u, (d :: t).drop k = 45 :: u → rdl u = none := fun u hu => by
            cases h2 : rdl u with
            | none => rfl
            | some y => exact absurd ⟨u, y.1, y.2, hu, h2⟩ hg
          rw [clsL_one hr hd hno] at h
          obtain ⟨y', h', e⟩ := Option.map_eq_some_iff.1 h
          have hno' : ∀ u, (d :: (t ++ 10 :: r)).drop k = 45 :: u → rdl u = none := fun u hu => by
            rw [hdr k (by rw [List.length_cons]; omega)] at hu
            cases hq : (d :: t).drop k with
            | nil => rw [hq, clsL_nil] at h'; cases h'
            | cons c v =>
              rw [hq, List.cons_append] at hu
              obtain ⟨rfl, rfl⟩ := List.cons.inj hu
              have hv : v ≠ [] := fun e => by
                subst e
                rw [hq] at h'
                rw [clsL_one (lo := 45) (n := 1) (by rfl) (by decide) (fun t ht => by cases ht)] at h'
                obtain ⟨z, hz, -⟩ := Option.map_eq_some_iff.1 h'
                rw [show ([45] : List Nat).drop 1 = [] from rfl, clsL_nil] at hz
                cases hz
              rw [rdl_nl r hv]
              exact hno v hq
          rw [List.cons_append, clsL_one hr2 hd hno', hdr _ (by rw [List.length_cons]; omega)]
          rw [clsL_nl r n _ (by rw [List.length_drop, List.length_cons]; omega) y' h', ← e]; rfl
theorem tokL_nl {k : Nat} {x : List Nat} (r : List Nat) {y : Tok × Nat} (hx : x ≠ []) (h : tokL k x = some y) : tokL k (x ++ 10 :: r) = some y := by
  cases x with
  | nil => exact absurd rfl hx
  | cons c t =>
    rw [List.cons_append]
    cases hl : letB c true
    · by_cases ha : c = 60 ∧ t.head? = some 45
      · rw [tokL_arrow hl ha] at h
        obtain ⟨h1, h2⟩ := ha
        rw [tokL_arrow hl ⟨h1, by cases t with | nil => cases h2 | cons _ _ => exact h2⟩]; exact h
      · have ha' : ¬ (c = 60 ∧ (t ++ 10 :: r).head? = some 45) := by
          rintro ⟨h1, h2⟩
          cases t with
          | nil => exact absurd (Option.some.inj h2) (by decide)
          | cons _ _ => exact ha ⟨h1, h2⟩
        cases hs : signK c with
        | some i => rw [tokL_sign hl ha hs] at h; rw [tokL_sign hl ha' hs]; exact h
        | none =>
          by_cases h91 : c = 91
          · subst h91
            rw [tokL_cls] at h
            obtain ⟨z, hz, e⟩ := Option.map_eq_some_iff.1 h
            rw [tokL_cls, clsL_nl r _ _ (Nat.le_refl _) z hz, ← e]; rfl
          · by_cases hq : c = 39 ∨ c = 34
            · rw [tokL_lit hq] at h
              obtain ⟨z, hz, e⟩ := Option.map_eq_some_iff.1 h
              rw [tokL_lit hq, litE_nl c r _ _ (Nat.le_refl _) z hz, ← e]; rfl
            · rw [tokL_bad hl ha hs h91 hq] at h; cases h
    · rw [tokL_id hl] at h
      rw [tokL_id hl, ← List.cons_append, idL_nl, List.take_append_of_le_length (idL_le _ _)]; exact h
theorem nextL_ok {l : List Nat} {p : Nat} {y : Tok × Nat} (h : nextL l p = .ok y) : (skipL (l.drop p)).2 = true ∧ tokL (p + (skipL (l.drop p)).1) (l.drop (p + (skipL (l.drop p)).1)) = some y := by
  unfold nextL at h
  split at h
  · rename_i h1
    refine ⟨h1, ?_⟩
    cases hh : tokL (p + (skipL (l.drop p)).1) (l.drop (p + (skipL (l.drop p)).1)) with
    | none => rw [hh] at h; cases h
    | some x => rw [hh] at h; cases h; rfl
  · cases h
/-- A token of a string is one of the string with a line end behind. -/
theorem nextL_nl {l : List Nat} (r : List Nat) {p : Nat} {t : Tok} {n : Nat} (hp : p ≤ l.length) (h : nextL l p = .ok (t, n)) :
    (t.kind ≠ 0 → nextL (l ++ 10 :: r) p = .ok (t, n)) ∧ (t.kind = 0 → nextL (l ++ 10 :: r) p = nextL (l ++ 10 :: r) (l.length + 1)) := by
  obtain ⟨h1, h2⟩ := nextL_ok h
  have hle := skipL_le _ (l.drop p) (Nat.le_refl _)
  have hn := skipL_nl r _ (l.drop p) (Nat.le_refl _) h1
  rw [← List.drop_append_of_le_length hp] at hn
  generalize hm : (skipL (l.drop p)).1 = m at h2 hle hn
  rw [List.length_drop] at hle hn
  rcases tokL_moves _ _ _ _ h2 with ⟨k0, hnil⟩ | ⟨k0, hlt, hlt2⟩
  · refine ⟨fun e => absurd k0 e, fun _ => ?_⟩
    have hmp : m = l.length - p := by
      have := List.drop_eq_nil_iff.1 hnil
      omega
    rw [if_pos hmp] at hn
    have hd : (l ++ 10 :: r).drop (l.length + 1) = r := by
      rw [List.drop_append, List.drop_eq_nil_of_le (by omega)]
      simp
    unfold nextL
    rw [hn, hd]
    dsimp only
    rw [show p + (l.length - p + 1 + (skipL r).1) = l.length + 1 + (skipL r).1 by omega]
  · refine ⟨fun _ => ?_, fun e => absurd e k0⟩
    rw [List.length_drop] at hlt2
    have hmp : ¬ m = l.length - p := by omega
    rw [if_neg hmp] at hn
    have hx : l.drop (p + m) ≠ [] := fun e => by
      have := congrArg List.length e
      rw [List.length_drop, List.length_nil] at this
      omega
    unfold nextL
    rw [hn, h1, if_pos rfl, hm, List.drop_append_of_le_length (by omega), tokL_nl r hx h2]
theorem toksL_congr {l : List Nat} {p q : Nat} (hp : p ≤ l.length) (hq : q ≤ l.length) (h : nextL l p = nextL l q) : toksL l p = toksL l q := by
  cases hn : nextL l p with
  | error k => rw [toksL_bad hn, toksL_bad (h.symm.trans hn)]
  | ok y =>
    obtain ⟨t, n⟩ := y
    have hn2 := h.symm.trans hn
    by_cases ht : t.kind = 0
    · rw [toksL_end hn ht, toksL_end hn2 ht]
    · have m1 := nextL_moves l p hp t n hn
      have m2 := nextL_moves l q hq t n hn2
      rw [toksL_step hn ht (by rcases m1 with h | h; exact absurd h.1 ht; exact h.2), toksL_step hn2 ht (by rcases m2 with h | h; exact absurd h.1 ht; exact h.2)]
theorem toks_one {l : List Nat} {p : Nat} {ts : List Tok} (h : toksL l p = .ok ts) : ts ≠ [] := by
  rintro rfl
  rw [toksL] at h
  split at h
  · cases h
  · split at h
    · cases h
    · split at h
      · cases hr : toksL l _ with
        | error k => rw [hr] at h; cases h
        | ok q => rw [hr] at h; cases h
      · cases h
/-- The tokens of a string, a line end, and what follows. -/
theorem toksL_nl {l : List Nat} (r : List Nat) : ∀ (n p : Nat) (ts : List Tok), l.length - p ≤ n → p ≤ l.length → toksL l p = .ok ts →
    toksL (l ++ 10 :: r) p = (toksL (l ++ 10 :: r) (l.length + 1)).map (ts.dropLast ++ ·) := by
  intro n
  induction n with
  | zero =>
    intro p ts hn hp h
    cases hx : nextL l p with
    | error k => rw [toksL_bad hx] at h; cases h
    | ok y =>
      obtain ⟨t, m⟩ := y
      have hm := nextL_moves l p hp t m hx
      have ht : t.kind = 0 := by
        rcases hm with h | h
        · exact h.1
        · omega
      rw [toksL_end hx ht] at h
      cases h
      rw [toksL_congr (by rw [List.length_append]; omega) (by rw [List.length_append, List.length_cons]; omega) ((nextL_nl r hp hx).2 ht)]
      cases toksL (l ++ 10 :: r) (l.length + 1) <;> rfl
  | succ n ih =>
    intro p ts hn hp h
    cases hx : nextL l p with
    | error k => rw [toksL_bad hx] at h; cases h
    | ok y =>
      obtain ⟨t, m⟩ := y
      have hm := nextL_moves l p hp t m hx
      by_cases ht : t.kind = 0
      · rw [toksL_end hx ht] at h
        cases h
        rw [toksL_congr (by rw [List.length_append]; omega) (by rw [List.length_append, List.length_cons]; omega) ((nextL_nl r hp hx).2 ht)]
        cases toksL (l ++ 10 :: r) (l.length + 1) <;> rfl
      · have hmv : p < m ∧ m ≤ l.length := by
          rcases hm with h | h
          · exact absurd h.1 ht
          · exact h.2
        rw [toksL_step hx ht hmv] at h
        cases hq : toksL l m with
        | error k => rw [hq] at h; cases h
        | ok ts' =>
          rw [hq] at h
          cases h
          have h3 := ih m ts' (by omega) hmv.2 hq
          rw [toksL_step ((nextL_nl r hp hx).1 ht) ht ⟨hmv.1, by rw [List.length_append]; omega⟩, h3]
          have hne := toks_one hq
          have hdl : (t :: ts').dropLast = t :: ts'.dropLast := by
            cases ts' with
            | nil => exact absurd rfl hne
            | cons _ _ => rfl
          rw [hdl]
          cases toksL (l ++ 10 :: r) (l.length + 1) <;> rfl
/-- A token moved. -/
def shT (d : Nat) (t : Tok) : Tok := ⟨t.kind, t.at_ + d, t.text, t.rs⟩
def sh1 (d : Nat) (y : Tok × Nat) : Tok × Nat := (shT d y.1, y.2 + d)
theorem tokL_shift (d k : Nat) (l : List Nat) : tokL (k + d) l = (tokL k l).map (sh1 d) := by
  cases l with
  | nil => rfl
  | cons c r =>
    cases hl : letB c true
    · by_cases ha : c = 60 ∧ r.head? = some 45
      · rw [tokL_arrow hl ha, tokL_arrow hl ha]
        show some _ = some (_, k + 2 + d)
        rw [show k + d + 2 = k + 2 + d by omega]; rfl
      · cases hs : signK c with
        | some i =>
          rw [tokL_sign hl ha hs, tokL_sign hl ha hs]
          show some _ = some (_, k + 1 + d)
          rw [show k + d + 1 = k + 1 + d by omega]; rfl
        | none =>
          by_cases h91 : c = 91
          · subst h91
            rw [tokL_cls, tokL_cls]
            cases clsL r with
            | none => rfl
            | some x =>
              show some ((⟨13, k + d, [], x.1⟩ : Tok), k + d + 1 + x.2) = some (_, k + 1 + x.2 + d)
              rw [show k + d + 1 + x.2 = k + 1 + x.2 + d by omega]; rfl
          · by_cases hq : c = 39 ∨ c = 34
            · rw [tokL_lit hq, tokL_lit hq]
              cases litE c r with
              | none => rfl
              | some x =>
                show some ((⟨12, k + d, x.1, []⟩ : Tok), k + d + 1 + x.2) = some (_, k + 1 + x.2 + d)
                rw [show k + d + 1 + x.2 = k + 1 + x.2 + d by omega]; rfl
            · rw [tokL_bad hl ha hs h91 hq, tokL_bad hl ha hs h91 hq]; rfl
    · rw [tokL_id hl, tokL_id hl]
      show some _ = some (_, k + idL true (c :: r) + d)
      rw [show k + d + idL true (c :: r) = k + idL true (c :: r) + d by omega]; rfl
theorem nextL_shift {u r : List Nat} {p : Nat} {t : Tok} {n : Nat} (h : nextL r p = .ok (t, n)) : nextL (u ++ r) (u.length + p) = .ok (shT u.length t, u.length + n) := by
  obtain ⟨h1, h2⟩ := nextL_ok h
  have hd : ∀ j, (u ++ r).drop (u.length + j) = r.drop j := fun j => by
    rw [List.drop_append, List.drop_eq_nil_of_le (by omega)]
    simp
  unfold nextL
  rw [hd p, h1, if_pos rfl, Nat.add_assoc, hd, Nat.add_comm u.length, tokL_shift, h2]
  show Except.ok (shT u.length t, n + u.length) = _
  rw [Nat.add_comm n]
theorem toksL_shift {u r : List Nat} : ∀ (n p : Nat) (ts : List Tok), r.length - p ≤ n → p ≤ r.length → toksL r p = .ok ts → toksL (u ++ r) (u.length + p) = .ok (ts.map (shT u.length)) := by
  intro n
  induction n with
  | zero =>
    intro p ts hn hp h
    cases hx : nextL r p with
    | error k => rw [toksL_bad hx] at h; cases h
    | ok y =>
      obtain ⟨t, m⟩ := y
      have hm := nextL_moves r p hp t m hx
      have ht : t.kind = 0 := by
        rcases hm with h | h
        · exact h.1
        · omega
      rw [toksL_end hx ht] at h
      cases h
      rw [toksL_end (nextL_shift hx) ht]; rfl
  | succ n ih =>
    intro p ts hn hp h
    cases hx : nextL r p with
    | error k => rw [toksL_bad hx] at h; cases h
    | ok y =>
      obtain ⟨t, m⟩ := y
      have hm := nextL_moves r p hp t m hx
      by_cases ht : t.kind = 0
      · rw [toksL_end hx ht] at h
        cases h
        rw [toksL_end (nextL_shift hx) ht]; rfl
      · have hmv : p < m ∧ m ≤ r.length := by
          rcases hm with h | h
          · exact absurd h.1 ht
          · exact h.2
        rw [toksL_step hx ht hmv] at h
        cases hq : toksL r m with
        | error k => rw [hq] at h; cases h
        | ok ts' =>
          rw [hq] at h
          cases h
          rw [toksL_step (nextL_shift hx) ht ⟨by omega, by rw [List.length_append]; omega⟩, ih m ts' (by omega) hmv.2 hq]; rfl
theorem tokL_at' (k : Nat) (l : List Nat) (t : Tok) (n : Nat) (h : tokL k l = some (t, n)) : t.at_ = k := by
  have h0 := tokL_shift k 0 l
  rw [Nat.zero_add, h] at h0
  have h1 : ∀ (y : Tok × Nat), tokL 0 l = some y → y.1.at_ = 0 := fun y hy => by
    cases l with
    | nil => rw [tokL_nil] at hy; cases hy; rfl
    | cons c r =>
      rw [tokL_cons] at hy
      split at hy
      · cases hy; rfl
      · split at hy
        · cases hy; rfl
        · split at hy
          · cases hy; rfl
          · split at hy
            · obtain ⟨x, -, e⟩ := Option.map_eq_some_iff.1 hy; cases e; rfl
            · split at hy
              · obtain ⟨x, -, e⟩ := Option.map_eq_some_iff.1 hy; cases e; rfl
              · cases hy
  cases hy : tokL 0 l with
  | none => rw [hy] at h0; cases h0
  | some y =>
    rw [hy] at h0
    have e := congrArg Prod.fst (Option.some.inj h0)
    have e2 : t.at_ = y.1.at_ + k := by
      have : t = shT k y.1 := e
      rw [this]; rfl
    rw [e2, h1 y hy, Nat.zero_add]
/-- Tokens lie within their string. -/
theorem toks_at {l : List Nat} : ∀ (n p : Nat) (ts : List Tok), l.length - p ≤ n → p ≤ l.length → toksL l p = .ok ts → ∀ t ∈ ts, t.at_ ≤ l.length := by
  have one : ∀ (p : Nat) (t : Tok) (m : Nat), p ≤ l.length → nextL l p = .ok (t, m) → t.at_ ≤ l.length := fun p t m hp h => by
    obtain ⟨h1, h2⟩ := nextL_ok h
    have hle := skipL_le _ (l.drop p) (Nat.le_refl _)
    rw [List.length_drop] at hle
    rw [tokL_at' _ _ _ _ h2]; omega
  intro n
  induction n with
  | zero =>
    intro p ts hn hp h t ht
    cases hx : nextL l p with
    | error k => rw [toksL_bad hx] at h; cases h
    | ok y =>
      obtain ⟨u, m⟩ := y
      have hm := nextL_moves l p hp u m hx
      have hu : u.kind = 0 := by
        rcases hm with h | h
        · exact h.1
        · omega
      rw [toksL_end hx hu] at h
      cases h
      rw [List.mem_singleton] at ht
      subst ht
      exact one p _ m hp hx
  | succ n ih =>
    intro p ts hn hp h t ht
    cases hx : nextL l p with
    | error k => rw [toksL_bad hx] at h; cases h
    | ok y =>
      obtain ⟨u, m⟩ := y
      have hm := nextL_moves l p hp u m hx
      by_cases hu : u.kind = 0
      · rw [toksL_end hx hu] at h
        cases h
        rw [List.mem_singleton] at ht
        subst ht
        exact one p _ m hp hx
      · have hmv : p < m ∧ m ≤ l.length := by
          rcases hm with h | h
          · exact absurd h.1 hu
          · exact h.2
        rw [toksL_step hx hu hmv] at h
        cases hq : toksL l m with
        | error k => rw [hq] at h; cases h
        | ok ts' =>
          rw [hq] at h
          cases h
          rcases List.mem_cons.1 ht with rfl | ht
          · exact one p _ m hp hx
          · exact ih m ts' (by omega) hmv.2 hq t ht
/-- Two strings with a line end between them. -/
theorem toks_join {a b : List Nat} {x y : List Tok} (ha : toksL a 0 = .ok x) (hb : toksL b 0 = .ok y) : toksL (a ++ 10 :: b) 0 = .ok (x.dropLast ++ y.map (shT (a.length + 1))) := by
  rw [toksL_nl b _ 0 x (Nat.le_refl _) (Nat.zero_le _) ha]
  have h := toksL_shift (u := a ++ [10]) (r := b) _ 0 y (Nat.le_refl _) (Nat.zero_le _) hb
  rw [List.length_append, List.append_assoc] at h
  have h' : toksL (a ++ 10 :: b) (a.length + 1) = .ok (y.map (shT (a.length + 1))) := h
  rw [h']; rfl
/-- Spacing, whatever follows. -/
def Spc (p : List Nat) : Prop := ∀ x, skipL (p ++ x) = (p.length + (skipL x).1, (skipL x).2)
theorem spc_nil : Spc [] := fun x => by simp
theorem spc_cons {c : Nat} {p : List Nat} (h : c = 32 ∨ c = 9 ∨ c = 10 ∨ c = 13) (hp : Spc p) : Spc (c :: p) := fun x => by
  rw [List.cons_append, skipL_space h, hp x, List.length_cons]
  congr 1; show p.length + (skipL x).1 + 1 = _; omega
theorem spc_com {p q : List Nat} {m : Nat} (hc : comL p = some m) (hq : p.drop m = q) (hs : Spc q) : Spc (35 :: p) := fun x => by
  have hm := comL_lt _ _ hc
  rw [List.cons_append, skipL_com (comL_app x _ _ hc), List.drop_append_of_le_length (by omega), hq, hs x, List.length_cons, ← hq, List.length_drop]
  congr 1; show p.length - m + (skipL x).1 + (m + 1) = _; omega
theorem toks_spc {q : List Nat} (h : Spc q) : toksL q 0 = .ok [⟨0, q.length, [], []⟩] := by
  have hk := h []
  rw [List.append_nil, skipL_nil] at hk
  refine toksL_end (n := q.length) ?_ rfl
  unfold nextL
  rw [List.drop_zero, hk]
  show (match tokL (0 + (q.length + 0)) (q.drop (0 + (q.length + 0))) with | some x => Except.ok x | none => .error _) = _
  rw [List.drop_eq_nil_of_le (by omega), tokL_nil]
  simp
/-- Spacing before and behind a string. -/
theorem toks_spaces {p l q : List Nat} {ts : List Tok} (hp : Spc p) (hq : Spc q) (h : toksL l 0 = .ok ts) :
    toksL (p ++ (l ++ 10 :: q)) 0 = .ok (ts.dropLast.map (shT p.length) ++ [⟨0, p.length + (l.length + 1 + q.length), [], []⟩]) := by
  have h1 := toks_join h (toks_spc hq)
  have h2 := toksL_shift (u := p) (r := l ++ 10 :: q) _ 0 _ (Nat.le_refl _) (Nat.zero_le _) h1
  rw [toksL_congr (q := p.length) (Nat.zero_le _) (by rw [List.length_append]; omega), ← Nat.add_zero p.length, h2]
  · rw [List.map_append]
    show Except.ok (_ ++ [_]) = Except.ok (_ ++ [_])
    unfold shT
    simp; omega
  · have hd : (p ++ (l ++ 10 :: q)).drop p.length = l ++ 10 :: q := by simp
    unfold nextL
    rw [List.drop_zero, hp, hd]
    dsimp only
    rw [Nat.zero_add]
end Go.Proofs.YtipokoalcbaolaaDoor
