/- What the laws of spacing and of joining need besides. -/
import Derived.Test.YtmjnbapkpcfgcaaGreatDoorPkSynLawC
namespace Go.Proofs.YtmjnbapkpcfgcaaGreatDoor
open Go.RowKit
/-- The same in a region that only reads. -/
theorem gwpQuiet_agg {ops : Array Oper} {C : World → Prop} {Q : Act → Prop} {rest : List Oper} {o : Oper} {a : Act} (op : BinOp) (t u : TypeId) (x y : Operand) (ho : o.op = .binOp op t x y u)
    (hw : Region.wanted o (yielded ops a.tmps) = true) (xs ys : Array Value) (hx : a.eval x = .agg xs) (hy : a.eval y = .agg ys)
    (hm : Tryz.prog.eqGuardType Tryz.prog.depth t = false) (v : Value) (hv : ∀ w, (binOp op t (.agg xs) (.agg ys)).run Tryz.prog w = .ok v w) (h : wpQuiet Tryz.prog ops C Q rest (a.put o.dst v)) : wpQuiet Tryz.prog ops C Q (o :: rest) a :=
  wpQuiet_step fun K hK => by
    rw [if_pos hw]
    refine ⟨v, fun w _ => ?_, hK _ h⟩
    show Oper.quietUpon Tryz.prog C w v ((execOp a.eval o).run Tryz.prog w)
    rw [gexec_agg op t u x y ho xs ys hx hy hm v (hv w)]
    exact ⟨rfl, rfl⟩
end Go.Proofs.YtmjnbapkpcfgcaaGreatDoor
namespace Go.Proofs.YtmjnbapkpcfgcaaGreatDoor
theorem numF_nl (r : List Nat) : ∀ (l : List Nat) (k c n : Nat), numF c n ((l ++ 10 :: r).take k) = numF c n (l.take k)
  | [], 0, _, _ => rfl
  | [], k + 1, c, n => by
    show numF c n (10 :: r.take k) = numF c n []
    rw [numF_no _ _ (by decide)]; rfl
  | d :: t, 0, _, _ => rfl
  | d :: t, k + 1, c, n => by
    show numF c n (d :: (t ++ 10 :: r).take k) = numF c n (d :: t.take k)
    cases h : oct d
    · rw [numF_no _ _ h, numF_no _ _ h]
    · rw [numF_yes _ _ h, numF_yes _ _ h, numF_nl r t k]
theorem esc_nl (x r : List Nat) : esc (x ++ 10 :: r) = esc x := by
  cases x with
  | nil => show esc (10 :: r) = (0, 0); rw [esc_cons]; rfl
  | cons d t =>
    show esc (d :: (t ++ 10 :: r)) = _
    rw [esc_cons, esc_cons]
    have h3 := numF_nl r (d :: t) 3 0 0
    have h2 := numF_nl r (d :: t) 2 0 0
    rw [List.cons_append] at h3 h2
    rw [h3, h2]
theorem rdl_nl {x : List Nat} (r : List Nat) (h : x ≠ []) : rdl (x ++ 10 :: r) = rdl x := by
  cases x with
  | nil => exact absurd rfl h
  | cons d t =>
    by_cases hd : d = 92
    · subst hd
      rw [List.cons_append, rdl_esc, rdl_esc, esc_nl]
    · rw [List.cons_append, rdl_plain _ _ hd, rdl_plain _ _ hd]
theorem comL_app (y : List Nat) : ∀ (t : List Nat) (m : Nat), comL t = some m → comL (t ++ y) = some m
  | [], m, h => by cases h
  | c :: r, m, h => by
    rw [List.cons_append]
    by_cases hc : c = 10 ∨ c = 13
    · rw [comL_end hc] at h ⊢; exact h
    · rw [comL_step hc] at h ⊢
      obtain ⟨k, hk, rfl⟩ := Option.map_eq_some_iff.1 h
      rw [comL_app y r k hk]; rfl
theorem idL_nl (r : List Nat) : ∀ (x : List Nat) (f : Bool), idL f (x ++ 10 :: r) = idL f x
  | [], f => by
    have : letB 10 f = false := by cases f <;> rfl
    show idL f (10 :: r) = 0
    rw [idL_no this]
  | c :: t, f => by
    rw [List.cons_append]
    cases h : letB c f
    · rw [idL_no h, idL_no h]
    · rw [idL_yes h, idL_yes h, idL_nl r t]
theorem skipL_nl (r : List Nat) : ∀ (n : Nat) (x : List Nat), x.length ≤ n → (skipL x).2 = true →
    skipL (x ++ 10 :: r) = if (skipL x).1 = x.length then (x.length + 1 + (skipL r).1, (skipL r).2) else skipL x
  | _, [], _, _ => by
    show skipL (10 :: r) = _
    rw [skipL_space (by decide), skipL_nil]
    simp; omega
  | 0, c :: t, h, _ => absurd h (by rw [List.length_cons]; omega)
  | n + 1, c :: t, h, h2 => by
    rw [List.length_cons] at h
    rw [List.cons_append]
    by_cases h1 : c = 32 ∨ c = 9 ∨ c = 10 ∨ c = 13
    · rw [skipL_space h1] at h2 ⊢
      have ih := skipL_nl r n t (by omega) h2
      rw [ih, skipL_space h1, List.length_cons]
      by_cases hz : (skipL t).1 = t.length
      · rw [if_pos hz, if_pos (by show (skipL t).1 + 1 = _; omega)]
        congr 1; show t.length + 1 + (skipL r).1 + 1 = _; omega
      · rw [if_neg hz, if_neg (by show ¬ (skipL t).1 + 1 = _; omega)]
    · by_cases h35 : c = 35
      · subst h35
        cases hc : comL t with
        | none => rw [skipL_bad hc] at h2; cases h2
        | some m =>
          have hm := comL_lt _ _ hc
          rw [skipL_com hc] at h2
          have ih := skipL_nl r n (t.drop m) (by rw [List.length_drop]; omega) h2
          rw [skipL_com (comL_app _ _ _ hc), List.drop_append_of_le_length (by omega), ih, skipL_com hc, List.length_cons, List.length_drop]
          by_cases hz : (skipL (t.drop m)).1 = t.length - m
          · rw [if_pos hz, if_pos (by show (skipL (t.drop m)).1 + (m + 1) = _; omega)]
            congr 1; show t.length - m + 1 + (skipL r).1 + (m + 1) = _; omega
          · rw [if_neg hz, if_neg (by show ¬ (skipL (t.drop m)).1 + (m + 1) = _; omega)]
      · rw [skipL_stop h1 h35, skipL_stop h1 h35, List.length_cons, if_neg (by show ¬ 0 = _; omega)]
theorem litE_nl (q : Nat) (r : List Nat) : ∀ (n : Nat) (x : List Nat), x.length ≤ n → ∀ y, litE q x = some y → litE q (x ++ 10 :: r) = some y
  | _, [], _, y, h => by rw [litE_nil] at h; cases h
  | 0, d :: t, hn, _, _ => absurd hn (by rw [List.length_cons]; omega)
  | n + 1, d :: t, hn, y, h => by
    rw [List.length_cons] at hn
    by_cases hd : d = q
    · subst hd
      rw [litE_end] at h
      rw [List.cons_append, litE_end]; exact h
    · cases hr : rdl (d :: t) with
      | none => rw [litE_bad hr hd] at h; cases h
      | some z =>
        obtain ⟨c, k⟩ := z
        have hk := rdl_len _ _ _ hr
        rw [List.length_cons] at hk
        have hr2 : rdl (d :: (t ++ 10 :: r)) = some (c, k) := by rw [← List.cons_append, rdl_nl r (by simp)]; exact hr
        rw [litE_step hr hd] at h
        obtain ⟨y', h', e⟩ := Option.map_eq_some_iff.1 h
        rw [List.cons_append, litE_step hr2 hd, ← List.cons_append, List.drop_append_of_le_length (by rw [List.length_cons]; omega)]
        rw [litE_nl q r n _ (by rw [List.length_drop, List.length_cons]; omega) y' h', ← e]; rfl
theorem clsL_nl (r : List Nat) : ∀ (n : Nat) (x : List Nat), x.length ≤ n → ∀ y, clsL x = some y → clsL (x ++ 10 :: r) = some y
  | _, [], _, y, h => by rw [clsL_nil] at h; cases h
  | 0, d :: t, hn, _, _ => absurd hn (by rw [List.length_cons]; omega)
  | n + 1, d :: t, hn, y, h => by
    rw [List.length_cons] at hn
    by_cases hd : d = 93
    · subst hd
      rw [clsL_end] at h
      rw [List.cons_append, clsL_end]; exact h
    · cases hr : rdl (d :: t) with
      | none => rw [clsL_bad hr hd] at h; cases h
      | some z =>
        obtain ⟨lo, k⟩ := z
        have hk := rdl_len _ _ _ hr
        rw [List.length_cons] at hk
        have hr2 : rdl (d :: (t ++ 10 :: r)) = some (lo, k) := by rw [← List.cons_append, rdl_nl r (by simp)]; exact hr
        have hdr : ∀ j, j ≤ (d :: t).length → (d :: (t ++ 10 :: r)).drop j = (d :: t).drop j ++ 10 :: r := fun j hj => by rw [← List.cons_append, List.drop_append_of_le_length hj]
        by_cases hg : ∃ u hi j, (d :: t).drop k = 45 :: u ∧ rdl u = some (hi, j)
        · obtain ⟨u, hi, j, h1, h2⟩ := hg
          rw [clsL_range hr hd h1 h2] at h
          obtain ⟨y', h', e⟩ := Option.map_eq_some_iff.1 h
          have hj := rdl_len _ _ _ h2
          have hu := congrArg List.length h1
          rw [List.length_drop, List.length_cons, List.length_cons] at hu
          have hne : u ≠ [] := fun e => by rw [e] at h2; cases h2
          have h1' : (d :: (t ++ 10 :: r)).drop k = 45 :: (u ++ 10 :: r) := by rw [hdr k (by rw [List.length_cons]; omega), h1]; rfl
          rw [List.cons_append, clsL_range hr2 hd h1' (by rw [rdl_nl r hne]; exact h2), hdr _ (by rw [List.length_cons]; omega)]
          rw [clsL_nl r n _ (by rw [List.length_drop, List.length_cons]; omega) y' h', ← e]; rfl
        · have hno : ∀ u, (d :: t).drop k = 45 :: u → rdl u = none := fun u hu => by
            cases h2 : rdl u with
            | none => rfl
            | some y => exact absurd ⟨u, y.1, y.2, hu, h2⟩ hg
          rw [clsL_one hr hd hno] at h
          obtain ⟨y', h', e⟩ := Option.map_eq_some_iff.1 h
          have hno' : ∀ u, (d :: (t ++ 10 :: r)).drop k = 45 :: u → rdl u = none := fun u hu => by
            rw [hdr k (by rw [List.length_cons]; omega)] at hu
            cases hq : (d :: t).drop k with
            | nil => rw [hq, clsL_nil] at h'; cases h'
            | cons c v =>
              rw [hq, List.cons_append] at hu
              obtain ⟨rfl, rfl⟩ := List.cons.inj hu
              have hv : v ≠ [] := fun e => by
                subst e
                rw [hq] at h'
                rw [clsL_one (lo := 45) (n := 1) (by rfl) (by decide) (fun t ht => by cases ht)] at h'
                obtain ⟨z, hz, -⟩ := Option.map_eq_some_iff.1 h'
                rw [show ([45] : List Nat).drop 1 = [] from rfl, clsL_nil] at hz
                cases hz
              rw [rdl_nl r hv]
              exact hno v hq
          rw [List.cons_append, clsL_one hr2 hd hno', hdr _ (by rw [List.length_cons]; omega)]
          rw [clsL_nl r n _ (by rw [List.length_drop, List.length_cons]; omega) y' h', ← e]; rfl
theorem tokL_nl {k : Nat} {x : List Nat} (r : List Nat) {y : Tok × Nat} (hx : x ≠ []) (h : tokL k x = some y) : tokL k (x ++ 10 :: r) = some y := by
  cases x with
  | nil => exact absurd rfl hx
  | cons c t =>
    rw [List.cons_append]
    cases hl : letB c true
    · by_cases ha : c = 60 ∧ t.head? = some 45
      · rw [tokL_arrow hl ha] at h
        obtain ⟨h1, h2⟩ := ha
        rw [tokL_arrow hl ⟨h1, by cases t with | nil => cases h2 | cons _ _ => exact h2⟩]; exact h
      · have ha' : ¬ (c = 60 ∧ (t ++ 10 :: r).head? = some 45) := by
          rintro ⟨h1, h2⟩
          cases t with
          | nil => exact absurd (Option.some.inj h2) (by decide)
          | cons _ _ => exact ha ⟨h1, h2⟩
        cases hs : signK c with
        | some i => rw [tokL_sign hl ha hs] at h; rw [tokL_sign hl ha' hs]; exact h
        | none =>
          by_cases h91 : c = 91
          · subst h91
            rw [tokL_cls] at h
            obtain ⟨z, hz, e⟩ := Option.map_eq_some_iff.1 h
            rw [tokL_cls, clsL_nl r _ _ (Nat.le_refl _) z hz, ← e]; rfl
          · by_cases hq : c = 39 ∨ c = 34
            · rw [tokL_lit hq] at h
              obtain ⟨z, hz, e⟩ := Option.map_eq_some_iff.1 h
              rw [tokL_lit hq, litE_nl c r _ _ (Nat.le_refl _) z hz, ← e]; rfl
            · rw [tokL_bad hl ha hs h91 hq] at h; cases h
    · rw [tokL_id hl] at h
      rw [tokL_id hl, ← List.cons_append, idL_nl, List.take_append_of_le_length (idL_le _ _)]; exact h
/-- A token of a string is one of the string with a line end behind. -/
theorem nextL_nl {l : List Nat} (r : List Nat) {p : Nat} {t : Tok} {n : Nat} (hp : p ≤ l.length) (h : nextL l p = .ok (t, n)) :
    (t.kind ≠ 0 → nextL (l ++ 10 :: r) p = .ok (t, n)) ∧ (t.kind = 0 → nextL (l ++ 10 :: r) p = nextL (l ++ 10 :: r) (l.length + 1)) := by
  obtain ⟨h1, h2⟩ := nextL_ok h
  have hle := skipL_le _ (l.drop p) (Nat.le_refl _)
  have hn := skipL_nl r _ (l.drop p) (Nat.le_refl _) h1
  rw [← List.drop_append_of_le_length hp] at hn
  generalize hm : (skipL (l.drop p)).1 = m at h2 hle hn
  rw [List.length_drop] at hle hn
  rcases tokL_moves _ _ _ _ h2 with ⟨k0, hnil⟩ | ⟨k0, hlt, hlt2⟩
  · refine ⟨fun e => absurd k0 e, fun _ => ?_⟩
    have hmp : m = l.length - p := by
      have := List.drop_eq_nil_iff.1 hnil
      omega
    rw [if_pos hmp] at hn
    have hd : (l ++ 10 :: r).drop (l.length + 1) = r := by
      rw [List.drop_append, List.drop_eq_nil_of_le (by omega)]
      simp
    unfold nextL
    rw [hn, hd]
    dsimp only
    rw [show p + (l.length - p + 1 + (skipL r).1) = l.length + 1 + (skipL r).1 by omega]
  · refine ⟨fun _ => ?_, fun e => absurd e k0⟩
    rw [List.length_drop] at hlt2
    have hmp : ¬ m = l.length - p := by omega
    rw [if_neg hmp] at hn
    have hx : l.drop (p + m) ≠ [] := fun e => by
      have := congrArg List.length e
      rw [List.length_drop, List.length_nil] at this
      omega
    unfold nextL
    rw [hn, h1, if_pos rfl, hm, List.drop_append_of_le_length (by omega), tokL_nl r hx h2]
theorem toksL_congr {l : List Nat} {p q : Nat} (hp : p ≤ l.length) (hq : q ≤ l.length) (h : nextL l p = nextL l q) : toksL l p = toksL l q := by
  cases hn : nextL l p with
  | error k => rw [toksL_bad hn, toksL_bad (h.symm.trans hn)]
  | ok y =>
    obtain ⟨t, n⟩ := y
    have hn2 := h.symm.trans hn
    by_cases ht : t.kind = 0
    · rw [toksL_end hn ht, toksL_end hn2 ht]
    · have m1 := nextL_moves l p hp t n hn
      have m2 := nextL_moves l q hq t n hn2
      rw [toksL_step hn ht (by rcases m1 with h | h; exact absurd h.1 ht; exact h.2), toksL_step hn2 ht (by rcases m2 with h | h; exact absurd h.1 ht; exact h.2)]
theorem toks_one {l : List Nat} {p : Nat} {ts : List Tok} (h : toksL l p = .ok ts) : ts ≠ [] := by
  rintro rfl
  rw [toksL] at h
  split at h
  · cases h
  · split at h
    · cases h
    · split at h
      · cases hr : toksL l _ with
        | error k => rw [hr] at h; cases h
        | ok q => rw [hr] at h; cases h
      · cases h
/-- The tokens of a string, a line end, and what follows. -/
theorem toksL_nl {l : List Nat} (r : List Nat) : ∀ (n p : Nat) (ts : List Tok), l.length - p ≤ n → p ≤ l.length → toksL l p = .ok ts →
    toksL (l ++ 10 :: r) p = (toksL (l ++ 10 :: r) (l.length + 1)).map (ts.dropLast ++ ·) := by
  intro n
  induction n with
  | zero =>
    intro p ts hn hp h
    cases hx : nextL l p with
    | error k => rw [toksL_bad hx] at h; cases h
    | ok y =>
      obtain ⟨t, m⟩ := y
      have hm := nextL_moves l p hp t m hx
      have ht : t.kind = 0 := by
        rcases hm with h | h
        · exact h.1
        · omega
      rw [toksL_end hx ht] at h
      cases h
      rw [toksL_congr (by rw [List.length_append]; omega) (by rw [List.length_append, List.length_cons]; omega) ((nextL_nl r hp hx).2 ht)]
      cases toksL (l ++ 10 :: r) (l.length + 1) <;> rfl
  | succ n ih =>
    intro p ts hn hp h
    cases hx : nextL l p with
    | error k => rw [toksL_bad hx] at h; cases h
    | ok y =>
      obtain ⟨t, m⟩ := y
      have hm := nextL_moves l p hp t m hx
      by_cases ht : t.kind = 0
      · rw [toksL_end hx ht] at h
        cases h
        rw [toksL_congr (by rw [List.length_append]; omega) (by rw [List.length_append, List.length_cons]; omega) ((nextL_nl r hp hx).2 ht)]
        cases toksL (l ++ 10 :: r) (l.length + 1) <;> rfl
      · have hmv : p < m ∧ m ≤ l.length := by
          rcases hm with h | h
          · exact absurd h.1 ht
          · exact h.2
        rw [toksL_step hx ht hmv] at h
        cases hq : toksL l m with
        | error k => rw [hq] at h; cases h
        | ok ts' =>
          rw [hq] at h
          cases h
          have h3 := ih m ts' (by omega) hmv.2 hq
          rw [toksL_step ((nextL_nl r hp hx).1 ht) ht ⟨hmv.1, by rw [List.length_append]; omega⟩, h3]
          have hne := toks_one hq
          have hdl : (t :: ts').dropLast = t :: ts'.dropLast := by
            cases ts' with
            | nil => exact absurd rfl hne
            | cons _ _ => rfl
          rw [hdl]
          cases toksL (l ++ 10 :: r) (l.length + 1) <;> rfl
theorem tokL_at' (k : Nat) (l : List Nat) (t : Tok) (n : Nat) (h : tokL k l = some (t, n)) : t.at_ = k := by
  have h0 := tokL_shift k 0 l
  rw [Nat.zero_add, h] at h0
  have h1 : ∀ (y : Tok × Nat), tokL 0 l = some y → y.1.at_ = 0 := fun y hy => by
    cases l with
    | nil => rw [tokL_nil] at hy; cases hy; rfl
    | cons c r =>
      rw [tokL_cons] at hy
      split at hy
      · cases hy; rfl
      · split at hy
        · cases hy; rfl
        · split at hy
          · cases hy; rfl
          · split at hy
            · obtain ⟨x, -, e⟩ := Option.map_eq_some_iff.1 hy; cases e; rfl
            · split at hy
              · obtain ⟨x, -, e⟩ := Option.map_eq_some_iff.1 hy; cases e; rfl
              · cases hy
  cases hy : tokL 0 l with
  | none => rw [hy] at h0; cases h0
  | some y =>
    rw [hy] at h0
    have e := congrArg Prod.fst (Option.some.inj h0)
    have e2 : t.at_ = y.1.at_ + k := by
      have : t = shT k y.1 := e
      rw [this]; rfl
    rw [e2, h1 y hy, Nat.zero_add]
/-- Tokens lie within their string. -/
theorem toks_at {l : List Nat} : ∀ (n p : Nat) (ts : List Tok), l.length - p ≤ n → p ≤ l.length → toksL l p = .ok ts → ∀ t ∈ ts, t.at_ ≤ l.length := by
  have one : ∀ (p : Nat) (t : Tok) (m : Nat), p ≤ l.length → nextL l p = .ok (t, m) → t.at_ ≤ l.length := fun p t m hp h => by
    obtain ⟨h1, h2⟩ := nextL_ok h
    have hle := skipL_le _ (l.drop p) (Nat.le_refl _)
    rw [List.length_drop] at hle
    rw [tokL_at' _ _ _ _ h2]; omega
  intro n
  induction n with
  | zero =>
    intro p ts hn hp h t ht
    cases hx : nextL l p with
    | error k => rw [toksL_bad hx] at h; cases h
    | ok y =>
      obtain ⟨u, m⟩ := y
      have hm := nextL_moves l p hp u m hx
      have hu : u.kind = 0 := by
        rcases hm with h | h
        · exact h.1
        · omega
      rw [toksL_end hx hu] at h
      cases h
      rw [List.mem_singleton] at ht
      subst ht
      exact one p _ m hp hx
  | succ n ih =>
    intro p ts hn hp h t ht
    cases hx : nextL l p with
    | error k => rw [toksL_bad hx] at h; cases h
    | ok y =>
      obtain ⟨u, m⟩ := y
      have hm := nextL_moves l p hp u m hx
      by_cases hu : u.kind = 0
      · rw [toksL_end hx hu] at h
        cases h
        rw [List.mem_singleton] at ht
        subst ht
        exact one p _ m hp hx
      · have hmv : p < m ∧ m ≤ l.length := by
          rcases hm with h | h
          · exact absurd h.1 hu
          · exact h.2
        rw [toksL_step hx hu hmv] at h
        cases hq : toksL l m with
        | error k => rw [hq] at h; cases h
        | ok ts' =>
          rw [hq] at h
          cases h
          rcases List.mem_cons.1 ht with rfl | ht
          · exact one p _ m hp hx
          · exact ih m ts' (by omega) hmv.2 hq t ht
/-- Two strings with a line end between them. -/
theorem toks_join {a b : List Nat} {x y : List Tok} (ha : toksL a 0 = .ok x) (hb : toksL b 0 = .ok y) : toksL (a ++ 10 :: b) 0 = .ok (x.dropLast ++ y.map (shT (a.length + 1))) := by
  rw [toksL_nl b _ 0 x (Nat.le_refl _) (Nat.zero_le _) ha]
  have h := toksL_shift (u := a ++ [10]) (r := b) _ 0 y (Nat.le_refl _) (Nat.zero_le _) hb
  rw [List.length_append, List.append_assoc] at h
  have h' : toksL (a ++ 10 :: b) (a.length + 1) = .ok (y.map (shT (a.length + 1))) := h
  rw [h']; rfl
/-- Spacing, whatever follows. -/
def Spc (p : List Nat) : Prop := ∀ x, skipL (p ++ x) = (p.length + (skipL x).1, (skipL x).2)
theorem spc_nil : Spc [] := fun x => by simp
theorem spc_cons {c : Nat} {p : List Nat} (h : c = 32 ∨ c = 9 ∨ c = 10 ∨ c = 13) (hp : Spc p) : Spc (c :: p) := fun x => by
  rw [List.cons_append, skipL_space h, hp x, List.length_cons]
  congr 1; show p.length + (skipL x).1 + 1 = _; omega
theorem spc_com {p q : List Nat} {m : Nat} (hc : comL p = some m) (hq : p.drop m = q) (hs : Spc q) : Spc (35 :: p) := fun x => by
  have hm := comL_lt _ _ hc
  rw [List.cons_append, skipL_com (comL_app x _ _ hc), List.drop_append_of_le_length (by omega), hq, hs x, List.length_cons, ← hq, List.length_drop]
  congr 1; show p.length - m + (skipL x).1 + (m + 1) = _; omega
end Go.Proofs.YtmjnbapkpcfgcaaGreatDoor
namespace Go.Proofs.YtmjnbapkpcfgcaaGreatDoor
section
variable (d : Nat) (N0 : List PN) (C0 : List (List Nat × Nat))
variable {d N0 C0}
end
/-- The rules, moved. -/
def mvR (d n0 : Nat) (rs : List (List Nat × Nat × Int)) : List (List Nat × Nat × Int) := rs.map fun r => (r.1, r.2.1 + d, r.2.2 + (n0 : Int))
def mvO (d : Nat) (N0 : List PN) (C0 : List (List Nat × Nat)) (R0 : List (List Nat × Nat × Int)) (o : FO) : FO := match o with
  | .ok rs f => .ok (R0 ++ mvR d N0.length rs) (phi d N0 C0 f)
  | .bad ts dp => .bad (mvT d ts) dp
theorem defL_one {st : Bool} {F : List Tok → MF → PO} {ts a : List Tok} {f g : MF} (h : defL st F ts f = .ok a g) : kd ts = 1 := by
  unfold defL at h
  split at h
  · assumption
  · cases h
theorem defsL_hom {d : Nat} {N0 : List PN} {C0 : List (List Nat × Nat)} {R0 : List (List Nat × Nat × Int)} {st : Bool} {F : List Tok → MF → PO} (h : Hom d N0 C0 F) : ∀ (n : Nat) (ts : List Tok) (f : MF) (rs : List (List Nat × Nat × Int)),
    defsL st F n (mvT d ts) (phi d N0 C0 f) (R0 ++ mvR d N0.length rs) = mvO d N0 C0 R0 (defsL st F n ts f rs)
  | 0, _, _, _ => rfl
  | n + 1, ts, f, rs => by
    unfold defsL
    rw [Hom.defL h ts f]
    cases hd : defL st F ts f with
    | bad a dp => rfl
    | ok a g =>
      have h1 := defL_one hd
      show (if kd (mvT d a) = 0 then _ else _) = _
      have e : (R0 ++ mvR d N0.length rs) ++ [(txt (mvT d ts), pos (mvT d ts), lastI (phi d N0 C0 g))] = R0 ++ mvR d N0.length (rs ++ [(txt ts, pos ts, lastI g)]) := by
        unfold mvR
        rw [List.map_append, List.append_assoc, phi_last]
        cases ts with
        | nil => cases h1
        | cons t tl => rfl
      rw [mvT_kd, e]
      dsimp only
      split
      · rfl
      · exact defsL_hom h n a g _
theorem defs_more {st : Bool} {F : List Tok → MF → PO} (m : Nat) : ∀ (n : Nat) (ts : List Tok) (f g : MF) (rs rs' : List (List Nat × Nat × Int)), defsL st F n ts f rs = .ok rs' g → defsL st F (n + m) ts f rs = .ok rs' g
  | 0, _, _, _, _, _, h => by cases h
  | n + 1, ts, f, g, rs, rs', h => by
    rw [Nat.add_right_comm]
    unfold defsL at h ⊢
    cases hd : defL st F ts f with
    | bad a dp => rw [hd] at h; cases h
    | ok a k =>
      rw [hd] at h
      dsimp only at h ⊢
      by_cases h0 : kd a = 0
      · rw [if_pos h0] at h ⊢; exact h
      · rw [if_neg h0] at h ⊢; exact defs_more m n a k g _ _ h
end Go.Proofs.YtmjnbapkpcfgcaaGreatDoor
namespace Go.Proofs.YtmjnbapkpcfgcaaGreatDoor
section
variable (e : Tok) (rest : List Tok)
variable {e rest} (he : e.kind = 0) (h1 : kd rest = 1) (h2 : kd rest.tail = 2)
include he h1
include h2
omit he h1 h2
theorem defL_over {st : Bool} {F : List Tok → MF → PO} (hG : Grow 0 2 F) {ts a : List Tok} {f g : MF} (h : Go.Proofs.YtmjnbapkpcfgcaaGreatDoor.defL st F ts f = .ok a g) : Over ts a := by
  unfold Go.Proofs.YtmjnbapkpcfgcaaGreatDoor.defL at h
  split at h
  · rename_i k1
    obtain ⟨b, k, hb, hk⟩ := bind_ok' h
    have e1 : b = ts.tail ∧ k = f := by
      unfold Go.Proofs.YtmjnbapkpcfgcaaGreatDoor.acc at hb
      split at hb
      · cases hb
      · cases hb; exact ⟨rfl, rfl⟩
    obtain ⟨rfl, rfl⟩ := e1
    split at hk
    · rename_i k2
      obtain ⟨c, j, hc, hj⟩ := bind_ok' hk
      have e2 : c = ts.tail.tail ∧ j = k := by
        unfold Go.Proofs.YtmjnbapkpcfgcaaGreatDoor.acc at hc
        split at hc
        · cases hc
        · cases hc; exact ⟨rfl, rfl⟩
      obtain ⟨rfl, rfl⟩ := e2
      have hg := hG ts.tail.tail j
      rw [hj] at hg
      exact (Over.tail (ts := ts) (by omega) (by omega)).trans ((Over.tail (ts := ts.tail) (by omega) (by omega)).trans hg.1)
    · cases hk
  · cases h
theorem defL_less {st : Bool} {F : List Tok → MF → PO} (hG : Grow 0 2 F) {ts a : List Tok} {f g : MF} (h : Go.Proofs.YtmjnbapkpcfgcaaGreatDoor.defL st F ts f = .ok a g) : a.length < ts.length := by
  unfold Go.Proofs.YtmjnbapkpcfgcaaGreatDoor.defL at h
  split at h
  · rename_i k1
    have t1 := wt_tail (ts := ts) (by omega)
    obtain ⟨b, k, hb, hk⟩ := bind_ok' h
    have e1 : b = ts.tail ∧ k = f := by
      unfold Go.Proofs.YtmjnbapkpcfgcaaGreatDoor.acc at hb
      split at hb
      · cases hb
      · cases hb; exact ⟨rfl, rfl⟩
    obtain ⟨rfl, rfl⟩ := e1
    split at hk
    · rename_i k2
      have t2 := wt_tail (ts := ts.tail) (by omega)
      obtain ⟨c, j, hc, hj⟩ := bind_ok' hk
      have e2 : c = ts.tail.tail ∧ j = k := by
        unfold Go.Proofs.YtmjnbapkpcfgcaaGreatDoor.acc at hc
        split at hc
        · cases hc
        · cases hc; exact ⟨rfl, rfl⟩
      obtain ⟨rfl, rfl⟩ := e2
      have hg := hG ts.tail.tail j
      rw [hj] at hg
      have := hg.2.1
      omega
    · cases hk
  · cases h
theorem defs_fuel {st : Bool} {F : List Tok → MF → PO} (hG : Grow 0 2 F) : ∀ (n m : Nat) (ts : List Tok) (f : MF) (rs : List (List Nat × Nat × Int)), ts.length < n → ts.length < m → defsL st F n ts f rs = defsL st F m ts f rs
  | 0, _, _, _, _, h, _ => absurd h (Nat.not_lt_zero _)
  | _ + 1, 0, _, _, _, _, h => absurd h (Nat.not_lt_zero _)
  | n + 1, m + 1, ts, f, rs, h, h' => by
    unfold defsL
    cases hd : Go.Proofs.YtmjnbapkpcfgcaaGreatDoor.defL st F ts f with
    | bad a dp => rfl
    | ok a k =>
      have hl := defL_less hG hd
      dsimp only
      rw [defs_fuel hG n m a k _ (by omega) (by omega)]
theorem defs_over {st : Bool} {F : List Tok → MF → PO} (hG : Grow 0 2 F) : ∀ (n : Nat) (ts : List Tok) (f g : MF) (rs rs' : List (List Nat × Nat × Int)), defsL st F n ts f rs = .ok rs' g → ∃ a, kd a = 0 ∧ Over ts a
  | 0, _, _, _, _, _, h => by cases h
  | n + 1, ts, f, g, rs, rs', h => by
    unfold defsL at h
    cases hd : Go.Proofs.YtmjnbapkpcfgcaaGreatDoor.defL st F ts f with
    | bad a dp => rw [hd] at h; cases h
    | ok a k =>
      rw [hd] at h
      dsimp only at h
      have ho := defL_over hG hd
      by_cases h0 : kd a = 0
      · exact ⟨a, h0, ho⟩
      · rw [if_neg h0] at h
        obtain ⟨b, hb, hab⟩ := defs_over hG n a k g _ _ h
        exact ⟨b, hb, ho.trans hab⟩

include he h1
/-- All definitions of the first file, then what follows. -/
theorem defs_con {F : List Tok → MF → PO} (h : Con e rest (fun _ => True) F) (hG : Grow 0 2 F) (m : Nat) : ∀ (n : Nat) (us : List Tok) (f g : MF) (rs rs' : List (List Nat × Nat × Int)), Endy (us ++ [e]) → defsL true F n (us ++ [e]) f rs = .ok rs' g → ∃ k, defsL true F (n + m) (us ++ rest) f rs = defsL true F (m + k) rest g rs'
  | 0, _, _, _, _, _, _, ha => by cases ha
  | n + 1, us, f, g, rs, rs', hE, ha => by
    rw [Nat.add_right_comm]
    unfold defsL at ha
    show ∃ k, defsL true F (n + m + 1) _ _ _ = _
    cases hd : Go.Proofs.YtmjnbapkpcfgcaaGreatDoor.defL true F (us ++ [e]) f with
    | bad a dp => rw [hd] at ha; cases ha
    | ok a k =>
      rw [hd] at ha
      dsimp only at ha
      have hov := defL_over hG hd
      have hk1 := defL_one hd
      obtain ⟨vs, rfl, h3⟩ := Con.defL he h us f a k hd trivial
      have hEa : Endy (vs ++ [e]) := hov Endy clo_endy hE
      have hus : txt (us ++ [e]) = txt (us ++ rest) ∧ pos (us ++ [e]) = pos (us ++ rest) := by
        cases us with
        | nil => exact absurd hk1 (by show ¬ e.kind = 1; omega)
        | cons u us => exact ⟨rfl, rfl⟩
      have step : defsL true F (n + m + 1) (us ++ rest) f rs = if kd (vs ++ rest) = 0 then .ok (rs ++ [(txt (us ++ rest), pos (us ++ rest), lastI k)]) k else defsL true F (n + m) (vs ++ rest) k (rs ++ [(txt (us ++ rest), pos (us ++ rest), lastI k)]) := by
        conv => lhs; unfold defsL
        rw [h3]
      rw [step, ← hus.1, ← hus.2]
      by_cases h0 : kd (vs ++ [e]) = 0
      · rw [if_pos h0] at ha
        cases ha
        have hv : vs = [] := by
          cases vs with
          | nil => rfl
          | cons v vs =>
            exfalso
            cases vs with
            | nil => exact hEa.1.1 h0
            | cons w vs => exact hEa.1.1 h0
        subst hv
        rw [if_neg (by show ¬ kd rest = 0; omega)]
        exact ⟨n, by rw [Nat.add_comm n m]; rfl⟩
      · rw [if_neg h0] at ha
        have hne : kd (vs ++ rest) ≠ 0 := by
          rcases kd_con he h1 vs with e' | ⟨-, -, e'⟩
          · rw [← e']; exact h0
          · omega
        rw [if_neg hne]
        exact defs_con h hG m n vs k g _ _ hEa ha
end
theorem endy_last {ts : List Tok} (hE : Endy ts) (h : ∀ t, t ∈ ts → t.kind ≠ 99) : ∃ us e, ts = us ++ [e] ∧ e.kind = 0 := by
  induction ts with
  | nil => exact hE.elim
  | cons t tl ih =>
    cases tl with
    | nil =>
      rcases hE with h0 | h0
      · exact ⟨[], t, rfl, h0⟩
      · exact absurd h0 (h t (List.mem_singleton.2 rfl))
    | cons u r =>
      obtain ⟨us, e, e1, e2⟩ := ih hE.2 fun x hx => h x (List.mem_cons_of_mem _ hx)
      exact ⟨t :: us, e, by rw [e1]; rfl, e2⟩
theorem file_toks {l : List Nat} {rs : List (List Nat × Nat × Int)} {f : MF} (h : rfileL l = .ok rs f) : toksL l 0 = .ok (strm l 0) ∧ ∃ us e, strm l 0 = us ++ [e] ∧ e.kind = 0 := by
  have hE := endy_strm l _ 0 (Nat.zero_le _) (Nat.le_refl _)
  obtain ⟨a, h0, ho⟩ := defs_over (Gr.expr 200 true) _ _ _ _ _ _ h
  have hr := all_read hE ho h0
  exact ⟨strm_toks l _ 0 (Nat.le_refl _) (Nat.zero_le _) hr, endy_last hE hr⟩
theorem file_begins {l : List Nat} {rs : List (List Nat × Nat × Int)} {f : MF} (h : rfileL l = .ok rs f) : kd (strm l 0) = 1 ∧ kd (strm l 0).tail = 2 := by
  unfold rfileL at h
  unfold defsL at h
  cases hd : defL true (exprL true 200 true) (strm l 0) ⟨[], []⟩ with
  | bad a dp => rw [hd] at h; cases h
  | ok a g =>
    refine ⟨defL_one hd, ?_⟩
    unfold defL at hd
    rw [if_pos (defL_one hd), acc_true] at hd
    have hd : (if kd (strm l 0).tail = 2 then _ else PO.bad (strm l 0).tail false) = .ok a g := hd
    split at hd
    · assumption
    · cases hd
theorem phi_start (d : Nat) (g : MF) : phi d g.nodes g.calls ⟨[], []⟩ = g := by
  show MF.mk (g.nodes ++ []) (g.calls ++ []) = g
  rw [List.append_nil, List.append_nil]
/-- Two files with a line end between them. -/
theorem file_join {a b : List Nat} {ra rb : List (List Nat × Nat × Int)} {fa fb : MF} (ha : rfileL a = .ok ra fa) (hb : rfileL b = .ok rb fb) :
    rfileL (a ++ 10 :: b) = .ok (ra ++ mvR (a.length + 1) fa.nodes.length rb) (phi (a.length + 1) fa.nodes fa.calls fb) := by
  obtain ⟨ta, us, e, hua, he⟩ := file_toks ha
  obtain ⟨tb, -⟩ := file_toks hb
  obtain ⟨b1, b2⟩ := file_begins hb
  have hj := toks_strm _ _ 0 _ (Nat.le_refl _) (Nat.zero_le _) (toks_join ta tb)
  rw [hua, List.dropLast_concat] at hj
  have hE := endy_strm a _ 0 (Nat.zero_le _) (Nat.le_refl _)
  unfold rfileL at ha hb ⊢
  rw [hj]
  rw [hua] at ha hE
  have hk1 : kd (mvT (a.length + 1) (strm b 0)) = 1 := by rw [mvT_kd]; exact b1
  have hk2 : kd (mvT (a.length + 1) (strm b 0)).tail = 2 := by rw [mvT_tail, mvT_kd]; exact b2
  obtain ⟨k, hk⟩ := defs_con he hk1 (fun vs f a g h _ => Con.expr he hk1 hk2 200 true vs f a g h (.inl rfl)) (Gr.expr 200 true) ((strm b 0).length + 1) _ us _ _ _ _ hE ha
  have hh := defsL_hom (R0 := ra) (st := true) (Hom.expr (d := a.length + 1) (N0 := fa.nodes) (C0 := fa.calls) true 200 true) ((strm b 0).length + 1 + k) (strm b 0) ⟨[], []⟩ []
  rw [phi_start, defs_more k _ _ _ _ _ _ hb] at hh
  have e1 : ra ++ mvR (a.length + 1) fa.nodes.length [] = ra := List.append_nil _
  rw [e1] at hh
  have hw : defsL true (exprL true 200 true) ((us ++ [e]).length + 1 + ((strm b 0).length + 1)) (us ++ mvT (a.length + 1) (strm b 0)) ⟨[], []⟩ [] = .ok (ra ++ mvR (a.length + 1) fa.nodes.length rb) (phi (a.length + 1) fa.nodes fa.calls fb) := hk.trans hh
  refine (defs_fuel (Gr.expr 200 true) _ _ _ _ _ (by omega) ?_).trans hw
  rw [List.length_append, List.length_append, List.length_singleton, List.length_map]
  omega
end Go.Proofs.YtmjnbapkpcfgcaaGreatDoor
namespace Go.Proofs.YtmjnbapkpcfgcaaGreatDoor
theorem mvR_zero (d : Nat) (rs : List (List Nat × Nat × Int)) : mvR d 0 rs = rs.map fun r => (r.1, r.2.1 + d, r.2.2) := by
  unfold mvR
  congr 1
  funext r
  simp
theorem strm_congr {l : List Nat} {p q : Nat} (hp : p ≤ l.length) (hq : q ≤ l.length) (h : nextL l p = nextL l q) : strm l p = strm l q := by
  cases hn : nextL l p with
  | error k => rw [strm_bad hn, strm_bad (h.symm.trans hn)]
  | ok y =>
    obtain ⟨t, n⟩ := y
    have hn2 := h.symm.trans hn
    by_cases ht : t.kind = 0
    · rw [strm_end hn ht, strm_end hn2 ht]
    · have m1 := nextL_moves l p hp t n hn
      have m2 := nextL_moves l q hq t n hn2
      rw [strm_step hn ht (by rcases m1 with h | h; exact absurd h.1 ht; exact h.2), strm_step hn2 ht (by rcases m2 with h | h; exact absurd h.1 ht; exact h.2)]
/-- Spacing before a file. -/
theorem file_spaces {p l : List Nat} {rs : List (List Nat × Nat × Int)} {f : MF} (hp : Spc p) (h : rfileL l = .ok rs f) : rfileL (p ++ l) = .ok (rs.map fun r => (r.1, r.2.1 + p.length, r.2.2)) (mvF p.length f) := by
  obtain ⟨ht, -⟩ := file_toks h
  have h2 := toks_strm _ _ (p.length + 0) _ (Nat.le_refl _) (by rw [List.length_append]; omega) (toksL_shift (u := p) (r := l) _ 0 _ (Nat.le_refl _) (Nat.zero_le _) ht)
  have h3 : strm (p ++ l) 0 = mvT p.length (strm l 0) := by
    rw [strm_congr (q := p.length) (Nat.zero_le _) (by rw [List.length_append]; omega)]
    · exact h2
    · have hd : (p ++ l).drop p.length = l := by simp
      unfold nextL
      rw [List.drop_zero, hp, hd]
      dsimp only
      rw [Nat.zero_add]
  unfold rfileL at h ⊢
  rw [h3, mvT_length]
  have hh := defsL_hom (R0 := []) (st := true) (Hom.expr (d := p.length) (N0 := []) (C0 := []) true 200 true) ((strm l 0).length + 1) (strm l 0) ⟨[], []⟩ []
  rw [h] at hh
  have e1 : phi p.length [] [] ⟨[], []⟩ = ⟨[], []⟩ := rfl
  have e2 : ([] : List (List Nat × Nat × Int)) ++ mvR p.length ([] : List PN).length [] = [] := rfl
  rw [e1, e2] at hh
  rw [hh]
  show FO.ok ([] ++ mvR p.length 0 rs) (phi p.length [] [] f) = _
  rw [List.nil_append, phi_nil, mvR_zero]
end Go.Proofs.YtmjnbapkpcfgcaaGreatDoor
