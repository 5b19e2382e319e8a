/- Grammars as plain lists: the first node, the depth and the rule of a node, post-order read backwards (as the reference does) and by a stack (as the program does); that both ways agree. No walk. -/
import Derived.Test.YtklimoepkifnhaaLexMath
namespace Go.Proofs.Ytklimoepkifnhaa
/-- A node: its kind, its kids, its rule, the four words of its set. -/
structure PN where
  op : Int
  kids : List Int
  rule : Int
  s0 : Int
  s1 : Int
  s2 : Int
  s3 : Int
/-- A rule: its name and its root. -/
structure PR where
  name : ByteArray
  root : Int
theorem PN.eq_iff (n m : PN) : (n.op = m.op ∧ n.kids = m.kids ∧ n.rule = m.rule ∧ n.s0 = m.s0 ∧ n.s1 = m.s1 ∧ n.s2 = m.s2 ∧ n.s3 = m.s3) ↔ n = m := by
  cases n; cases m; simp
instance : DecidableEq PN := fun n m => decidable_of_iff _ (PN.eq_iff n m)
theorem PR.eq_iff (n m : PR) : (n.name = m.name ∧ n.root = m.root) ↔ n = m := by
  cases n; cases m; simp
instance : DecidableEq PR := fun n m => decidable_of_iff _ (PR.eq_iff n m)
def kidsAt (ns : List PN) (i : Nat) : List Int := match ns[i]? with
  | some n => n.kids
  | none => []
theorem kidsAt_some {ns : List PN} {i : Nat} {n : PN} (h : ns[i]? = some n) : kidsAt ns i = n.kids := by unfold kidsAt; rw [h]
/-- Kids, the last one first, read backwards from a: each is the index at hand, and then the one before its expression. -/
def chainL (ex : Int → Int) : List Int → Int → Int
  | [], a => a
  | k :: ks, a => if k = a then (if ex a = -2 then -2 else chainL ex ks (ex a)) else -2
theorem chainL_nil (ex : Int → Int) (a : Int) : chainL ex [] a = a := rfl
theorem chainL_step {ex : Int → Int} {a : Int} {ks : List Int} (h : ex a ≠ -2) : chainL ex (a :: ks) a = chainL ex ks (ex a) := by
  show (if a = a then (if ex a = -2 then -2 else chainL ex ks (ex a)) else -2) = _
  rw [if_pos rfl, if_neg h]
theorem chainL_stop {ex : Int → Int} {a : Int} {ks : List Int} (h : ex a = -2) : chainL ex (a :: ks) a = -2 := by
  show (if a = a then (if ex a = -2 then -2 else chainL ex ks (ex a)) else -2) = _
  rw [if_pos rfl, if_pos h]
theorem chainL_bad {ex : Int → Int} {a k : Int} {ks : List Int} (h : k ≠ a) : chainL ex (k :: ks) a = -2 := by
  show (if k = a then (if ex a = -2 then -2 else chainL ex ks (ex a)) else -2) = _
  rw [if_neg h]
theorem chainL_cons {ex : Int → Int} {a k : Int} {ks : List Int} (h : chainL ex (k :: ks) a ≠ -2) : k = a ∧ ex a ≠ -2 ∧ chainL ex (k :: ks) a = chainL ex ks (ex a) := by
  by_cases hk : k = a
  · subst hk
    by_cases he : ex k = -2
    · exact absurd (chainL_stop he) h
    · exact ⟨rfl, he, chainL_step he⟩
  · exact absurd (chainL_bad hk) h
/-- The index before the expression of node i, -2 where it is not in post-order; the first number bounds the depth of the reading. -/
def exF (ns : List PN) : Nat → Int → Int
  | 0, _ => -2
  | f + 1, i => if i < 0 then -2 else chainL (exF ns f) (kidsAt ns i.toNat).reverse (i - 1)
theorem exF_lt (ns : List PN) : ∀ (f : Nat) (i : Int), exF ns f i ≠ -2 → -1 ≤ exF ns f i ∧ exF ns f i < i ∧ 0 ≤ i
  | 0, i, h => absurd rfl h
  | f + 1, i, h => by
    have hd : exF ns (f + 1) i = if i < 0 then -2 else chainL (exF ns f) (kidsAt ns i.toNat).reverse (i - 1) := rfl
    by_cases hi : i < 0
    · rw [hd, if_pos hi] at h; exact absurd rfl h
    · rw [hd, if_neg hi] at h ⊢
      have key : ∀ (ks : List Int) (a : Int), -1 ≤ a → chainL (exF ns f) ks a ≠ -2 → -1 ≤ chainL (exF ns f) ks a ∧ chainL (exF ns f) ks a ≤ a := by
        intro ks
        induction ks with
        | nil => intro a ha _; exact ⟨ha, Int.le_refl _⟩
        | cons k ks ih =>
          intro a ha hc
          obtain ⟨-, he, hs⟩ := chainL_cons hc
          rw [hs] at hc ⊢
          have h1 := exF_lt ns f a he
          have h2 := ih _ h1.1 hc
          omega
      have := key _ (i - 1) (by omega) h
      omega
theorem exF_fuel (ns : List PN) : ∀ (f g : Nat) (i : Int), i < f → i < g → exF ns f i = exF ns g i
  | 0, 0, i, _, _ => rfl
  | 0, g + 1, i, h, _ => by
    show -2 = if i < 0 then -2 else _
    rw [if_pos (by omega)]
  | f + 1, 0, i, _, h => by
    show (if i < 0 then -2 else _) = -2
    rw [if_pos (by omega)]
  | f + 1, g + 1, i, h, h' => by
    show (if i < 0 then -2 else chainL (exF ns f) (kidsAt ns i.toNat).reverse (i - 1)) = (if i < 0 then -2 else chainL (exF ns g) (kidsAt ns i.toNat).reverse (i - 1))
    by_cases hi : i < 0
    · rw [if_pos hi, if_pos hi]
    · rw [if_neg hi, if_neg hi]
      have key : ∀ (ks : List Int) (a : Int), a < f → a < g → chainL (exF ns f) ks a = chainL (exF ns g) ks a := by
        intro ks
        induction ks with
        | nil => intro a _ _; rfl
        | cons k ks ih =>
          intro a ha hb
          have he := exF_fuel ns f g a ha hb
          by_cases hk : k = a
          · subst hk
            by_cases h2 : exF ns f k = -2
            · rw [chainL_stop h2, chainL_stop (he ▸ h2)]
            · have h3 : exF ns g k ≠ -2 := he ▸ h2
              rw [chainL_step h2, chainL_step h3, ← he]
              have := exF_lt ns f k h2
              exact ih _ (by omega) (by omega)
          · rw [chainL_bad hk, chainL_bad hk]
      exact key _ _ (by omega) (by omega)
def exL (ns : List PN) (i : Int) : Int := exF ns (i.toNat + 1) i
theorem exL_eqF (ns : List PN) (f : Nat) (i : Int) (h : i < f) : exF ns f i = exL ns i := exF_fuel ns _ _ _ h (by omega)
theorem exL_neg (ns : List PN) (i : Int) (h : i < 0) : exL ns i = -2 := by
  show (if i < 0 then -2 else _) = -2
  rw [if_pos h]
theorem chainL_congr {f g : Int → Int} (hf : ∀ a, f a ≠ -2 → f a < a) : ∀ (ks : List Int) (a : Int), (∀ b, b ≤ a → f b = g b) → chainL f ks a = chainL g ks a
  | [], a, _ => rfl
  | k :: ks, a, h => by
    have he := h a (Int.le_refl _)
    by_cases hk : k = a
    · subst hk
      by_cases h2 : f k = -2
      · rw [chainL_stop h2, chainL_stop (he ▸ h2)]
      · have h3 : g k ≠ -2 := he ▸ h2
        rw [chainL_step h2, chainL_step h3, ← he]
        have := hf k h2
        exact chainL_congr hf ks _ (fun b hb => h b (by omega))
    · rw [chainL_bad hk, chainL_bad hk]
theorem exL_lt (ns : List PN) (i : Int) (h : exL ns i ≠ -2) : -1 ≤ exL ns i ∧ exL ns i < i ∧ 0 ≤ i := exF_lt ns _ _ h
theorem exL_eq (ns : List PN) (i : Int) (h : 0 ≤ i) : exL ns i = chainL (exL ns) (kidsAt ns i.toNat).reverse (i - 1) := by
  have : exL ns i = chainL (exF ns i.toNat) (kidsAt ns i.toNat).reverse (i - 1) := by
    show (if i < 0 then -2 else chainL (exF ns i.toNat) (kidsAt ns i.toNat).reverse (i - 1)) = _
    rw [if_neg (by omega)]
  rw [this]
  exact chainL_congr (fun a ha => (exF_lt ns _ a ha).2.1) _ _ (fun b hb => exL_eqF ns _ _ (by omega))
/-- What is read backwards holds all nodes between. -/
theorem chain_range {ns : List PN} (i : Int) (hI : ∀ j, j < i → exL ns j ≠ -2 → ∀ x, exL ns j < x → x ≤ j → exL ns x ≠ -2 ∧ exL ns j ≤ exL ns x) :
    ∀ (ks : List Int) (a : Int), a < i → chainL (exL ns) ks a ≠ -2 → chainL (exL ns) ks a ≤ a ∧ ∀ x, chainL (exL ns) ks a < x → x ≤ a → exL ns x ≠ -2 ∧ chainL (exL ns) ks a ≤ exL ns x := by
  intro ks
  induction ks with
  | nil => intro a _ _; exact ⟨Int.le_refl _, fun x h1 h2 => absurd (show a < x from h1) (by omega)⟩
  | cons k ks ih =>
    intro a ha hc
    obtain ⟨-, he, hs⟩ := chainL_cons hc
    rw [hs] at hc ⊢
    have h1 := exL_lt ns a he
    obtain ⟨h2, h3⟩ := ih _ (by omega) hc
    refine ⟨by omega, fun x hx hxa => ?_⟩
    by_cases hx2 : x ≤ exL ns a
    · exact h3 x hx hx2
    · have := hI a ha he x (by omega) hxa
      exact ⟨this.1, by omega⟩
theorem ex_range (ns : List PN) : ∀ (n : Nat) (i : Int), i.toNat < n → exL ns i ≠ -2 → ∀ x, exL ns i < x → x ≤ i → exL ns x ≠ -2 ∧ exL ns i ≤ exL ns x
  | 0, i, hn, _ => absurd hn (Nat.not_lt_zero _)
  | n + 1, i, hn, he => by
    have hi := exL_lt ns i he
    intro x hx hxi
    by_cases hxe : x = i
    · subst hxe; exact ⟨he, Int.le_refl _⟩
    · have hq := exL_eq ns i hi.2.2
      rw [hq] at he hx ⊢
      exact (chain_range i (fun j hj hje => by
        have := exL_lt ns j hje
        exact ex_range ns n j (by omega) hje) _ _ (by omega) he).2 x hx (by omega)
theorem ex_between {ns : List PN} {i x : Int} (he : exL ns i ≠ -2) (h1 : exL ns i < x) (h2 : x ≤ i) : exL ns x ≠ -2 ∧ exL ns i ≤ exL ns x := ex_range ns _ i (Nat.lt_succ_self _) he x h1 h2
/-- Post-order as the reference says it: rule by rule, from the index before. -/
def ordR (ns : List PN) : List PR → Int → Bool
  | [], b => b == (ns.length : Int) - 1
  | r :: t, b => if r.root ≤ b ∨ (ns.length : Int) ≤ r.root ∨ exL ns r.root ≠ b then false else ordR ns t r.root
theorem ordR_cons {ns : List PN} {r : PR} {t : List PR} {b : Int} (h : ordR ns (r :: t) b = true) : b < r.root ∧ r.root < ns.length ∧ exL ns r.root = b ∧ ordR ns t r.root = true := by
  by_cases hc : r.root ≤ b ∨ (ns.length : Int) ≤ r.root ∨ exL ns r.root ≠ b
  · have : ordR ns (r :: t) b = false := by
      show (if r.root ≤ b ∨ (ns.length : Int) ≤ r.root ∨ exL ns r.root ≠ b then false else ordR ns t r.root) = false
      rw [if_pos hc]
    rw [this] at h; cases h
  · have : ordR ns (r :: t) b = ordR ns t r.root := by
      show (if r.root ≤ b ∨ (ns.length : Int) ≤ r.root ∨ exL ns r.root ≠ b then false else ordR ns t r.root) = _
      rw [if_neg hc]
    rw [this] at h
    exact ⟨by omega, by omega, by omega, h⟩
theorem ordR_mk {ns : List PN} {r : PR} {t : List PR} {b : Int} (h1 : b < r.root) (h2 : r.root < ns.length) (h3 : exL ns r.root = b) : ordR ns (r :: t) b = ordR ns t r.root := by
  show (if r.root ≤ b ∨ (ns.length : Int) ≤ r.root ∨ exL ns r.root ≠ b then false else ordR ns t r.root) = _
  rw [if_neg (by omega)]
/-- Behind an ordered part, each node is in post-order, and its expression begins behind the roots before it. -/
theorem ordR_all {ns : List PN} : ∀ (rs : List PR) (b : Int), -1 ≤ b → ordR ns rs b = true → b < ns.length ∧ ∀ x, b < x → x < ns.length → exL ns x ≠ -2 ∧ b ≤ exL ns x
  | [], b, _, h => by
    have : b = (ns.length : Int) - 1 := by simpa [ordR] using h
    exact ⟨by omega, fun x h1 h2 => by omega⟩
  | r :: t, b, hb, h => by
    obtain ⟨h1, h2, h3, h4⟩ := ordR_cons h
    obtain ⟨h5, h6⟩ := ordR_all t r.root (by omega) h4
    refine ⟨by omega, fun x hx hn => ?_⟩
    by_cases hxr : x ≤ r.root
    · have := ex_between (ns := ns) (i := r.root) (x := x) (by omega) (by omega) hxr
      exact ⟨this.1, by omega⟩
    · have := h6 x (by omega) hn
      exact ⟨this.1, by omega⟩
/-- All nodes are in post-order. -/
def AllEx (ns : List PN) : Prop := ∀ x : Int, 0 ≤ x → x < ns.length → exL ns x ≠ -2
theorem ordR_ex {ns : List PN} {rs : List PR} (h : ordR ns rs (-1) = true) : AllEx ns := fun x h1 h2 => ((ordR_all rs (-1) (by omega) h).2 x (by omega) h2).1
/-- The kids of a node in a chain lie between. -/
theorem chain_kids {ns : List PN} : ∀ (ks : List Int) (a : Int), chainL (exL ns) ks a ≠ -2 → ∀ k, k ∈ ks → 0 ≤ k ∧ k ≤ a
  | [], _, _, k, hk => by cases hk
  | x :: ks, a, h, k, hk => by
    obtain ⟨rfl, he, hs⟩ := chainL_cons h
    have hl := exL_lt ns x he
    rw [hs] at h
    rcases List.mem_cons.1 hk with rfl | hk
    · exact ⟨hl.2.2, Int.le_refl _⟩
    · have := chain_kids ks _ h k hk
      omega
def KidsBelow (ns : List PN) : Prop := ∀ (i : Nat) (n : PN), ns[i]? = some n → ∀ k, k ∈ n.kids → 0 ≤ k ∧ k < (i : Int)
theorem AllEx.kids {ns : List PN} (h : AllEx ns) : KidsBelow ns := fun i n hn k hk => by
  have hl := (List.getElem?_eq_some_iff.1 hn).1
  have he := h i (by omega) (by omega)
  rw [exL_eq ns i (by omega)] at he
  have hk' : k ∈ (kidsAt ns (i : Int).toNat).reverse := by
    rw [show (i : Int).toNat = i by omega, kidsAt_some hn]; exact List.mem_reverse.2 hk
  have := chain_kids _ _ he k hk'
  omega
/-- The first node, by the first kids. -/
def fstF (ns : List PN) : Nat → Int → Int
  | 0, i => i
  | f + 1, i => match kidsAt ns i.toNat with
    | [] => i
    | k :: _ => fstF ns f k
theorem chainL_append {ex : Int → Int} : ∀ (xs : List Int) (k a : Int), chainL ex (xs ++ [k]) a ≠ -2 → chainL ex xs a = k ∧ ex k ≠ -2 ∧ chainL ex (xs ++ [k]) a = ex k
  | [], k, a, h => by
    obtain ⟨rfl, he, hs⟩ := chainL_cons h
    exact ⟨rfl, he, hs⟩
  | x :: xs, k, a, h => by
    obtain ⟨rfl, he, hs⟩ := chainL_cons (show chainL ex (x :: (xs ++ [k])) a ≠ -2 from h)
    have hs' : chainL ex (x :: xs ++ [k]) x = chainL ex (xs ++ [k]) (ex x) := hs
    rw [hs'] at h ⊢
    obtain ⟨h1, h2, h3⟩ := chainL_append xs k _ h
    rw [chainL_step he]
    exact ⟨h1, h2, h3⟩
theorem fstF_ex {ns : List PN} : ∀ (f : Nat) (i : Int), i < f → exL ns i ≠ -2 → fstF ns f i = exL ns i + 1
  | 0, i, h, he => by have := (exL_lt ns i he).2.2; omega
  | f + 1, i, h, he => by
    have hi := (exL_lt ns i he).2.2
    have hq := exL_eq ns i hi
    show (match kidsAt ns i.toNat with | [] => i | k :: _ => fstF ns f k) = _
    cases hk : kidsAt ns i.toNat with
    | nil => rw [hk] at hq; rw [hq]; show i = i - 1 + 1; omega
    | cons k ks =>
      rw [hk, List.reverse_cons] at hq
      rw [hq] at he
      obtain ⟨h1, h2, h3⟩ := chainL_append _ k _ he
      rw [hq, h3]
      have hka : k ≤ i - 1 := by
        have := chain_kids _ _ he k (by simp)
        omega
      exact fstF_ex f k (by omega) h2
def fstL (ns : List PN) (i : Int) : Int := exL ns i + 1
theorem fstL_nil {ns : List PN} {i : Int} (h0 : 0 ≤ i) (h : kidsAt ns i.toNat = []) : fstL ns i = i := by
  unfold fstL; rw [exL_eq ns i h0, h]; show i - 1 + 1 = i; omega
theorem fstL_cons {ns : List PN} {i k : Int} {ks : List Int} (h0 : 0 ≤ i) (he : exL ns i ≠ -2) (h : kidsAt ns i.toNat = k :: ks) : fstL ns i = fstL ns k ∧ 0 ≤ k ∧ k < i ∧ exL ns k ≠ -2 := by
  have hq := exL_eq ns i h0
  rw [h, List.reverse_cons] at hq
  rw [hq] at he
  obtain ⟨h1, h2, h3⟩ := chainL_append _ k _ he
  have := chain_kids _ _ he k (by simp)
  unfold fstL
  rw [hq, h3]
  exact ⟨rfl, by omega, by omega, h2⟩
/-- The kids of a node follow each other: from the first node of its expression on, each begins where the one before it ends. -/
theorem chain_spans {ns : List PN} : ∀ (ks : List Int) (a e : Int), chainL (exL ns) ks a = e → e ≠ -2 → ∀ (p : Nat) (k : Int), ks.reverse[p]? = some k → exL ns k ≠ -2 ∧ exL ns k = (if p = 0 then e else (ks.reverse.getD (p - 1) 0))
  | [], a, e, _, _, p, k, h => by simp at h
  | x :: ks, a, e, hc, he, p, k, h => by
    obtain ⟨rfl, hx, hs⟩ := chainL_cons (show chainL (exL ns) (x :: ks) a ≠ -2 by rw [hc]; exact he)
    rw [hs] at hc
    have ih := chain_spans ks (exL ns x) e hc he
    rw [List.reverse_cons] at h ⊢
    rcases Nat.lt_or_ge p ks.reverse.length with hp | hp
    · rw [List.getElem?_append_left hp] at h
      have := ih p k h
      refine ⟨this.1, ?_⟩
      rw [this.2]
      by_cases h0 : p = 0
      · rw [if_pos h0, if_pos h0]
      · rw [if_neg h0, if_neg h0]
        simp only [List.getD]
        rw [List.getElem?_append_left (by omega)]
    · have hpe : p = ks.reverse.length := by
        have := (List.getElem?_eq_some_iff.1 h).1
        simp at this hp ⊢; omega
      subst hpe
      rw [List.getElem?_append_right (Nat.le_refl _), Nat.sub_self] at h
      have hkx : x = k := by simpa using h
      subst hkx
      refine ⟨hx, ?_⟩
      cases ks with
      | nil => rw [if_pos (by simp)]; exact hc
      | cons y ys =>
        rw [if_neg (by simp)]
        obtain ⟨hy, -, -⟩ := chainL_cons (show chainL (exL ns) (y :: ys) (exL ns x) ≠ -2 by rw [hc]; exact he)
        rw [List.reverse_cons]
        simp only [List.getD]
        rw [List.length_append, List.length_singleton, Nat.add_sub_cancel]
        rw [List.getElem?_append_left (by simp), List.getElem?_append_right (Nat.le_refl _), Nat.sub_self]
        exact hy.symm
end Go.Proofs.Ytklimoepkifnhaa
