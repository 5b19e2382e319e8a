/- Characters of grammar files as plain functions on lists of bytes: what a backslash and what follows it stand for. No walk, no program. Quoted strings as plain f -/
import Derived.Orders
import Derived.Below
import Derived.RowKit
namespace Go.Proofs.Ytnfjbjmdempafaa
/-- The bytes of a string. -/
def bts (s : ByteArray) : List Nat := s.data.toList.map UInt8.toNat
theorem bts_length (s : ByteArray) : (bts s).length = s.size := by unfold bts; rw [List.length_map]; exact Array.length_toList
theorem bts_at (s : ByteArray) (k : Nat) (h : k < s.size) : (bts s)[k]? = some (s[k].toNat) := by
  unfold bts
  rw [List.getElem?_map, List.getElem?_eq_getElem (by rw [Array.length_toList]; exact h)]
  rfl
theorem bts_drop (s : ByteArray) (k : Nat) (h : k < s.size) : (bts s).drop k = s[k].toNat :: (bts s).drop (k + 1) := by
  rw [List.drop_eq_getElem_cons (by rw [bts_length]; exact h)]
  congr 1
  have := bts_at s k h
  rw [List.getElem?_eq_getElem (by rw [bts_length]; exact h)] at this
  exact Option.some.inj this
theorem bts_cons (s : ByteArray) (h : 0 < s.size) : bts s = s[0].toNat :: (bts s).drop 1 := bts_drop s 0 h
end Go.Proofs.Ytnfjbjmdempafaa
namespace Go.Proofs.Ytnfjbjmdempafaa
end Go.Proofs.Ytnfjbjmdempafaa
namespace Go.Proofs.Ytnfjbjmdempafaa
/-- May a byte stand in an identifier? -/
def letB (c : Nat) (first : Bool) : Bool := if 48 ≤ c ∧ c ≤ 57 then !first else decide (c = 95 ∨ (97 ≤ c ∧ c ≤ 122) ∨ (65 ≤ c ∧ c ≤ 90))
/-- Are all bytes of an identifier's kind, the first one as a first one if f says so? -/
def allF : Bool → List Nat → Bool
  | _, [] => true
  | f, c :: r => if letB c f then allF false r else false
theorem allF_yes {f : Bool} {c : Nat} {r : List Nat} (h : letB c f = true) : allF f (c :: r) = allF false r := by
  show (if letB c f then allF false r else false) = _
  rw [if_pos h]
theorem allF_no {f : Bool} {c : Nat} {r : List Nat} (h : letB c f = false) : allF f (c :: r) = false := by
  show (if letB c f then allF false r else false) = _
  rw [h]; rfl
def nameB (l : List Nat) : Bool := !l.isEmpty && allF true l
end Go.Proofs.Ytnfjbjmdempafaa
namespace Go.Proofs.Ytnfjbjmdempafaa
/-- A node: its kind, its kids, its rule, the four words of its set. -/
structure PN where
  op : Int
  kids : List Int
  rule : Int
  s0 : Int
  s1 : Int
  s2 : Int
  s3 : Int
/-- A rule: its name and its root. -/
structure PR where
  name : ByteArray
  root : Int
theorem PN.eq_iff (n m : PN) : (n.op = m.op ∧ n.kids = m.kids ∧ n.rule = m.rule ∧ n.s0 = m.s0 ∧ n.s1 = m.s1 ∧ n.s2 = m.s2 ∧ n.s3 = m.s3) ↔ n = m := by
  cases n; cases m; simp
instance : DecidableEq PN := fun n m => decidable_of_iff _ (PN.eq_iff n m)
theorem PR.eq_iff (n m : PR) : (n.name = m.name ∧ n.root = m.root) ↔ n = m := by
  cases n; cases m; simp
instance : DecidableEq PR := fun n m => decidable_of_iff _ (PR.eq_iff n m)
def kidsAt (ns : List PN) (i : Nat) : List Int := match ns[i]? with
  | some n => n.kids
  | none => []
theorem kidsAt_some {ns : List PN} {i : Nat} {n : PN} (h : ns[i]? = some n) : kidsAt ns i = n.kids := by unfold kidsAt; rw [h]
/-- Kids, the last one first, read backwards from a: each is the index at hand, and then the one before its expression. -/
def chainL (ex : Int → Int) : List Int → Int → Int
  | [], a => a
  | k :: ks, a => if k = a then (if ex a = -2 then -2 else chainL ex ks (ex a)) else -2
theorem chainL_step {ex : Int → Int} {a : Int} {ks : List Int} (h : ex a ≠ -2) : chainL ex (a :: ks) a = chainL ex ks (ex a) := by
  show (if a = a then (if ex a = -2 then -2 else chainL ex ks (ex a)) else -2) = _
  rw [if_pos rfl, if_neg h]
theorem chainL_stop {ex : Int → Int} {a : Int} {ks : List Int} (h : ex a = -2) : chainL ex (a :: ks) a = -2 := by
  show (if a = a then (if ex a = -2 then -2 else chainL ex ks (ex a)) else -2) = _
  rw [if_pos rfl, if_pos h]
theorem chainL_bad {ex : Int → Int} {a k : Int} {ks : List Int} (h : k ≠ a) : chainL ex (k :: ks) a = -2 := by
  show (if k = a then (if ex a = -2 then -2 else chainL ex ks (ex a)) else -2) = _
  rw [if_neg h]
theorem chainL_cons {ex : Int → Int} {a k : Int} {ks : List Int} (h : chainL ex (k :: ks) a ≠ -2) : k = a ∧ ex a ≠ -2 ∧ chainL ex (k :: ks) a = chainL ex ks (ex a) := by
  by_cases hk : k = a
  · subst hk
    by_cases he : ex k = -2
    · exact absurd (chainL_stop he) h
    · exact ⟨rfl, he, chainL_step he⟩
  · exact absurd (chainL_bad hk) h
/-- The index before the expression of node i, -2 where it is not in post-order; the first number bounds the depth of the reading. -/
def exF (ns : List PN) : Nat → Int → Int
  | 0, _ => -2
  | f + 1, i => if i < 0 then -2 else chainL (exF ns f) (kidsAt ns i.toNat).reverse (i - 1)
theorem exF_lt (ns : List PN) : ∀ (f : Nat) (i : Int), exF ns f i ≠ -2 → -1 ≤ exF ns f i ∧ exF ns f i < i ∧ 0 ≤ i
  | 0, i, h => absurd rfl h
  | f + 1, i, h => by
    have hd : exF ns (f + 1) i = if i < 0 then -2 else chainL (exF ns f) (kidsAt ns i.toNat).reverse (i - 1) := rfl
    by_cases hi : i < 0
    · rw [hd, if_pos hi] at h; exact absurd rfl h
    · rw [hd, if_neg hi] at h ⊢
      have key : ∀ (ks : List Int) (a : Int), -1 ≤ a → chainL (exF ns f) ks a ≠ -2 → -1 ≤ chainL (exF ns f) ks a ∧ chainL (exF ns f) ks a ≤ a := by
        intro ks
        induction ks with
        | nil => intro a ha _; exact ⟨ha, Int.le_refl _⟩
        | cons k ks ih =>
          intro a ha hc
          obtain ⟨-, he, hs⟩ := chainL_cons hc
          rw [hs] at hc ⊢
          have h1 := exF_lt ns f a he
          have h2 := ih _ h1.1 hc
          omega
      have := key _ (i - 1) (by omega) h
      omega
theorem exF_fuel (ns : List PN) : ∀ (f g : Nat) (i : Int), i < f → i < g → exF ns f i = exF ns g i
  | 0, 0, i, _, _ => rfl
  | 0, g + 1, i, h, _ => by
    show -2 = if i < 0 then -2 else _
    rw [if_pos (by omega)]
  | f + 1, 0, i, _, h => by
    show (if i < 0 then -2 else _) = -2
    rw [if_pos (by omega)]
  | f + 1, g + 1, i, h, h' => by
    show (if i < 0 then -2 else chainL (exF ns f) (kidsAt ns i.toNat).reverse (i - 1)) = (if i < 0 then -2 else chainL (exF ns g) (kidsAt ns i.toNat).reverse (i - 1))
    by_cases hi : i < 0
    · rw [if_pos hi, if_pos hi]
    · rw [if_neg hi, if_neg hi]
      have key : ∀ (ks : List Int) (a : Int), a < f → a < g → chainL (exF ns f) ks a = chainL (exF ns g) ks a := by
        intro ks
        induction ks with
        | nil => intro a _ _; rfl
        | cons k ks ih =>
          intro a ha hb
          have he := exF_fuel ns f g a ha hb
          by_cases hk : k = a
          · subst hk
            by_cases h2 : exF ns f k = -2
            · rw [chainL_stop h2, chainL_stop (he ▸ h2)]
            · have h3 : exF ns g k ≠ -2 := he ▸ h2
              rw [chainL_step h2, chainL_step h3, ← he]
              have := exF_lt ns f k h2
              exact ih _ (by omega) (by omega)
          · rw [chainL_bad hk, chainL_bad hk]
      exact key _ _ (by omega) (by omega)
def exL (ns : List PN) (i : Int) : Int := exF ns (i.toNat + 1) i
theorem exL_eqF (ns : List PN) (f : Nat) (i : Int) (h : i < f) : exF ns f i = exL ns i := exF_fuel ns _ _ _ h (by omega)
theorem exL_neg (ns : List PN) (i : Int) (h : i < 0) : exL ns i = -2 := by
  show (if i < 0 then -2 else _) = -2
  rw [if_pos h]
theorem chainL_congr {f g : Int → Int} (hf : ∀ a, f a ≠ -2 → f a < a) : ∀ (ks : List Int) (a : Int), (∀ b, b ≤ a → f b = g b) → chainL f ks a = chainL g ks a
  | [], a, _ => rfl
  | k :: ks, a, h => by
    have he := h a (Int.le_refl _)
    by_cases hk : k = a
    · subst hk
      by_cases h2 : f k = -2
      · rw [chainL_stop h2, chainL_stop (he ▸ h2)]
      · have h3 : g k ≠ -2 := he ▸ h2
        rw [chainL_step h2, chainL_step h3, ← he]
        have := hf k h2
        exact chainL_congr hf ks _ (fun b hb => h b (by omega))
    · rw [chainL_bad hk, chainL_bad hk]
theorem exL_lt (ns : List PN) (i : Int) (h : exL ns i ≠ -2) : -1 ≤ exL ns i ∧ exL ns i < i ∧ 0 ≤ i := exF_lt ns _ _ h
theorem exL_eq (ns : List PN) (i : Int) (h : 0 ≤ i) : exL ns i = chainL (exL ns) (kidsAt ns i.toNat).reverse (i - 1) := by
  have : exL ns i = chainL (exF ns i.toNat) (kidsAt ns i.toNat).reverse (i - 1) := by
    show (if i < 0 then -2 else chainL (exF ns i.toNat) (kidsAt ns i.toNat).reverse (i - 1)) = _
    rw [if_neg (by omega)]
  rw [this]
  exact chainL_congr (fun a ha => (exF_lt ns _ a ha).2.1) _ _ (fun b hb => exL_eqF ns _ _ (by omega))
/-- What is read backwards holds all nodes between. -/
theorem chain_range {ns : List PN} (i : Int) (hI : ∀ j, j < i → exL ns j ≠ -2 → ∀ x, exL ns j < x → x ≤ j → exL ns x ≠ -2 ∧ exL ns j ≤ exL ns x) :
    ∀ (ks : List Int) (a : Int), a < i → chainL (exL ns) ks a ≠ -2 → chainL (exL ns) ks a ≤ a ∧ ∀ x, chainL (exL ns) ks a < x → x ≤ a → exL ns x ≠ -2 ∧ chainL (exL ns) ks a ≤ exL ns x := by
  intro ks
  induction ks with
  | nil => intro a _ _; exact ⟨Int.le_refl _, fun x h1 h2 => absurd (show a < x from h1) (by omega)⟩
  | cons k ks ih =>
    intro a ha hc
    obtain ⟨-, he, hs⟩ := chainL_cons hc
    rw [hs] at hc ⊢
    have h1 := exL_lt ns a he
    obtain ⟨h2, h3⟩ := ih _ (by omega) hc
    refine ⟨by omega, fun x hx hxa => ?_⟩
    by_cases hx2 : x ≤ exL ns a
    · exact h3 x hx hx2
    · have := hI a ha he x (by omega) hxa
      exact ⟨this.1, by omega⟩
theorem ex_range (ns : List PN) : ∀ (n : Nat) (i : Int), i.toNat < n → exL ns i ≠ -2 → ∀ x, exL ns i < x → x ≤ i → exL ns x ≠ -2 ∧ exL ns i ≤ exL ns x
  | 0, i, hn, _ => absurd hn (Nat.not_lt_zero _)
  | n + 1, i, hn, he => by
    have hi := exL_lt ns i he
    intro x hx hxi
    by_cases hxe : x = i
    · subst hxe; exact ⟨he, Int.le_refl _⟩
    · have hq := exL_eq ns i hi.2.2
      rw [hq] at he hx ⊢
      exact (chain_range i (fun j hj hje => by
        have := exL_lt ns j hje
        exact ex_range ns n j (by omega) hje) _ _ (by omega) he).2 x hx (by omega)
theorem ex_between {ns : List PN} {i x : Int} (he : exL ns i ≠ -2) (h1 : exL ns i < x) (h2 : x ≤ i) : exL ns x ≠ -2 ∧ exL ns i ≤ exL ns x := ex_range ns _ i (Nat.lt_succ_self _) he x h1 h2
/-- Post-order as the reference says it: rule by rule, from the index before. -/
def ordR (ns : List PN) : List PR → Int → Bool
  | [], b => b == (ns.length : Int) - 1
  | r :: t, b => if r.root ≤ b ∨ (ns.length : Int) ≤ r.root ∨ exL ns r.root ≠ b then false else ordR ns t r.root
theorem ordR_cons {ns : List PN} {r : PR} {t : List PR} {b : Int} (h : ordR ns (r :: t) b = true) : b < r.root ∧ r.root < ns.length ∧ exL ns r.root = b ∧ ordR ns t r.root = true := by
  by_cases hc : r.root ≤ b ∨ (ns.length : Int) ≤ r.root ∨ exL ns r.root ≠ b
  · have : ordR ns (r :: t) b = false := by
      show (if r.root ≤ b ∨ (ns.length : Int) ≤ r.root ∨ exL ns r.root ≠ b then false else ordR ns t r.root) = false
      rw [if_pos hc]
    rw [this] at h; cases h
  · have : ordR ns (r :: t) b = ordR ns t r.root := by
      show (if r.root ≤ b ∨ (ns.length : Int) ≤ r.root ∨ exL ns r.root ≠ b then false else ordR ns t r.root) = _
      rw [if_neg hc]
    rw [this] at h
    exact ⟨by omega, by omega, by omega, h⟩
theorem ordR_mk {ns : List PN} {r : PR} {t : List PR} {b : Int} (h1 : b < r.root) (h2 : r.root < ns.length) (h3 : exL ns r.root = b) : ordR ns (r :: t) b = ordR ns t r.root := by
  show (if r.root ≤ b ∨ (ns.length : Int) ≤ r.root ∨ exL ns r.root ≠ b then false else ordR ns t r.root) = _
  rw [if_neg (by omega)]
/-- Behind an ordered part, each node is in post-order, and its expression begins behind the roots before it. -/
theorem ordR_all {ns : List PN} : ∀ (rs : List PR) (b : Int), -1 ≤ b → ordR ns rs b = true → b < ns.length ∧ ∀ x, b < x → x < ns.length → exL ns x ≠ -2 ∧ b ≤ exL ns x
  | [], b, _, h => by
    have : b = (ns.length : Int) - 1 := by simpa [ordR] using h
    exact ⟨by omega, fun x h1 h2 => by omega⟩
  | r :: t, b, hb, h => by
    obtain ⟨h1, h2, h3, h4⟩ := ordR_cons h
    obtain ⟨h5, h6⟩ := ordR_all t r.root (by omega) h4
    refine ⟨by omega, fun x hx hn => ?_⟩
    by_cases hxr : x ≤ r.root
    · have := ex_between (ns := ns) (i := r.root) (x := x) (by omega) (by omega) hxr
      exact ⟨this.1, by omega⟩
    · have := h6 x (by omega) hn
      exact ⟨this.1, by omega⟩
/-- All nodes are in post-order. -/
def AllEx (ns : List PN) : Prop := ∀ x : Int, 0 ≤ x → x < ns.length → exL ns x ≠ -2
theorem ordR_ex {ns : List PN} {rs : List PR} (h : ordR ns rs (-1) = true) : AllEx ns := fun x h1 h2 => ((ordR_all rs (-1) (by omega) h).2 x (by omega) h2).1
/-- The kids of a node in a chain lie between. -/
theorem chain_kids {ns : List PN} : ∀ (ks : List Int) (a : Int), chainL (exL ns) ks a ≠ -2 → ∀ k, k ∈ ks → 0 ≤ k ∧ k ≤ a
  | [], _, _, k, hk => by cases hk
  | x :: ks, a, h, k, hk => by
    obtain ⟨rfl, he, hs⟩ := chainL_cons h
    have hl := exL_lt ns x he
    rw [hs] at h
    rcases List.mem_cons.1 hk with rfl | hk
    · exact ⟨hl.2.2, Int.le_refl _⟩
    · have := chain_kids ks _ h k hk
      omega
def KidsBelow (ns : List PN) : Prop := ∀ (i : Nat) (n : PN), ns[i]? = some n → ∀ k, k ∈ n.kids → 0 ≤ k ∧ k < (i : Int)
theorem AllEx.kids {ns : List PN} (h : AllEx ns) : KidsBelow ns := fun i n hn k hk => by
  have hl := (List.getElem?_eq_some_iff.1 hn).1
  have he := h i (by omega) (by omega)
  rw [exL_eq ns i (by omega)] at he
  have hk' : k ∈ (kidsAt ns (i : Int).toNat).reverse := by
    rw [show (i : Int).toNat = i by omega, kidsAt_some hn]; exact List.mem_reverse.2 hk
  have := chain_kids _ _ he k hk'
  omega
end Go.Proofs.Ytnfjbjmdempafaa
namespace Go.Proofs.Ytnfjbjmdempafaa
/-- The stack is what is read backwards from a down to b. -/
def StackIs (ns : List PN) : List Int → Int → Int → Prop
  | [], a, b => a = b
  | x :: st, a, b => x = a ∧ exL ns x ≠ -2 ∧ b < x ∧ StackIs ns st (exL ns x) b
theorem StackIs.le {ns : List PN} : ∀ {st : List Int} {a b : Int}, StackIs ns st a b → b ≤ a
  | [], _, _, h => Int.le_of_eq h.symm
  | x :: st, a, b, ⟨h1, h2, h3, h4⟩ => by omega
/-- The greatest depth of kids, and the depths of all nodes. -/
def maxK (ds : List Nat) (ks : List Int) : Nat := ks.foldl (fun m k => max m (ds.getD k.toNat 0)) 0
def depsL (ns : List PN) : List Nat := ns.foldl (fun ds n => ds ++ [maxK ds n.kids + 1]) []
theorem depsL_snoc (ns : List PN) (n : PN) : depsL (ns ++ [n]) = depsL ns ++ [maxK (depsL ns) n.kids + 1] := by unfold depsL; rw [List.foldl_append]; rfl
theorem depsL_length (ns : List PN) : (depsL ns).length = ns.length := by
  have key : ∀ (ns : List PN) (ds : List Nat), (ns.foldl (fun ds n => ds ++ [maxK ds n.kids + 1]) ds).length = ds.length + ns.length := by
    intro ns
    induction ns with
    | nil => intro ds; rfl
    | cons n ns ih => intro ds; rw [List.foldl_cons, ih, List.length_append, List.length_singleton, List.length_cons]; omega
  have := key ns []
  rw [List.length_nil, Nat.zero_add] at this
  exact this
theorem depsL_take (ns : List PN) : ∀ (m i : Nat), i + m = ns.length → (depsL ns).take i = depsL (ns.take i)
  | 0, i, h => by rw [List.take_of_length_le (by rw [depsL_length]; omega), List.take_of_length_le (by omega)]
  | m + 1, i, h => by
    have ih := depsL_take ns m (i + 1) (by omega)
    rw [List.take_succ_eq_append_getElem (by omega : i < ns.length), depsL_snoc] at ih
    have h2 := congrArg (List.take i) ih
    have hl : (depsL (ns.take i)).length = i := by rw [depsL_length, List.length_take]; omega
    rw [List.take_take, Nat.min_eq_left (Nat.le_succ i), List.take_append_of_le_length (by omega)] at h2
    rw [h2, List.take_of_length_le (by omega)]
def dpL (ns : List PN) (i : Nat) : Nat := (depsL ns).getD i 0
theorem dpL_take (ns : List PN) (i k : Nat) (hk : k < i) (hi : i ≤ ns.length) : (depsL (ns.take i)).getD k 0 = dpL ns k := by
  rw [← depsL_take ns (ns.length - i) i (by omega)]
  unfold dpL
  simp only [List.getD]
  rw [List.getElem?_take, if_pos hk]
theorem maxK_congr {ds es : List Nat} : ∀ (ks : List Int) (m : Nat), (∀ k, k ∈ ks → ds.getD k.toNat 0 = es.getD k.toNat 0) → ks.foldl (fun m k => max m (ds.getD k.toNat 0)) m = ks.foldl (fun m k => max m (es.getD k.toNat 0)) m
  | [], _, _ => rfl
  | k :: ks, m, h => by
    rw [List.foldl_cons, List.foldl_cons, h k List.mem_cons_self]
    exact maxK_congr ks _ (fun x hx => h x (List.mem_cons_of_mem _ hx))
theorem dpL_eq {ns : List PN} (hk : KidsBelow ns) {i : Nat} {n : PN} (hn : ns[i]? = some n) : dpL ns i = maxK (depsL ns) n.kids + 1 := by
  obtain ⟨hi, hni⟩ := List.getElem?_eq_some_iff.1 hn
  have h1 := dpL_take ns (i + 1) i (Nat.lt_succ_self _) hi
  rw [← h1, List.take_succ_eq_append_getElem hi, depsL_snoc, hni]
  simp only [List.getD]
  have hl : (depsL (ns.take i)).length = i := by rw [depsL_length, List.length_take]; omega
  rw [List.getElem?_append_right (by omega), hl, Nat.sub_self]
  show maxK _ _ + 1 = _
  unfold maxK
  rw [maxK_congr (es := depsL ns) n.kids 0 (fun k hm => by
    have := hk i n hn k hm
    exact dpL_take ns i k.toNat (by omega) (by omega))]
/-- The reference's depth, up to a greatest one. -/
def rdF (ns : List PN) : Nat → Int → Nat
  | 0, _ => 1
  | m + 1, i => (kidsAt ns i.toNat).foldl (fun d k => max d (rdF ns m k)) 0 + 1
theorem rdF_is {ns : List PN} (hk : KidsBelow ns) : ∀ (m : Nat) (i : Int), 0 ≤ i → i < ns.length → rdF ns m i = min (dpL ns i.toNat) (m + 1)
  | 0, i, h0, hi => by
    obtain ⟨n, hn⟩ : ∃ n, ns[i.toNat]? = some n := ⟨_, List.getElem?_eq_getElem (by omega)⟩
    rw [dpL_eq hk hn]
    show 1 = _
    omega
  | m + 1, i, h0, hi => by
    obtain ⟨n, hn⟩ : ∃ n, ns[i.toNat]? = some n := ⟨_, List.getElem?_eq_getElem (by omega)⟩
    show (kidsAt ns i.toNat).foldl (fun d k => max d (rdF ns m k)) 0 + 1 = _
    rw [dpL_eq hk hn, kidsAt_some hn]
    have key : ∀ (ks : List Int) (d e : Nat), (∀ k, k ∈ ks → 0 ≤ k ∧ k < (i.toNat : Int)) → d = min e (m + 1) → ks.foldl (fun d k => max d (rdF ns m k)) d = min (ks.foldl (fun m k => max m ((depsL ns).getD k.toNat 0)) e) (m + 1) := by
      intro ks
      induction ks with
      | nil => intro d e _ h; exact h
      | cons k ks ih =>
        intro d e hb h
        rw [List.foldl_cons, List.foldl_cons]
        refine ih _ _ (fun x hx => hb x (List.mem_cons_of_mem _ hx)) ?_
        have hk1 := hb k List.mem_cons_self
        rw [rdF_is hk m k hk1.1 (by omega), h]
        show _ = min (max e (dpL ns k.toNat)) (m + 1)
        omega
    have := key n.kids 0 0 (hk i.toNat n hn) (by omega)
    rw [this]
    unfold maxK
    omega
/-- The first index from i on, of m, that has the property. -/
def fbad (p : Nat → Bool) : Nat → Nat → Option Nat
  | 0, _ => none
  | m + 1, i => if p i then some i else fbad p m (i + 1)
theorem fbad_yes {p : Nat → Bool} {m i : Nat} (h : p i = true) : fbad p (m + 1) i = some i := by
  show (if p i then some i else fbad p m (i + 1)) = _
  rw [if_pos h]
theorem fbad_no {p : Nat → Bool} {m i : Nat} (h : p i = false) : fbad p (m + 1) i = fbad p m (i + 1) := by
  show (if p i then some i else fbad p m (i + 1)) = _
  rw [if_neg (by rw [h]; exact Bool.false_ne_true)]
theorem fbad_none {p : Nat → Bool} : ∀ (m i : Nat), fbad p m i = none → ∀ k, i ≤ k → k < i + m → p k = false
  | 0, i, _, k, h1, h2 => by omega
  | m + 1, i, h, k, h1, h2 => by
    cases hp : p i with
    | true => rw [fbad_yes hp] at h; cases h
    | false =>
      rw [fbad_no hp] at h
      by_cases hk : k = i
      · subst hk; exact hp
      · exact fbad_none m (i + 1) h k (by omega) (by omega)
/-- A rule's name is no identifier, or that of an earlier rule. -/
def nameBad (rs : List PR) (i : Nat) : Bool := match rs[i]? with
  | some r => (rs.take i).any (fun x => decide (x.name = r.name)) || !nameB (bts r.name)
  | none => false
/-- A node is well made. -/
def madeB (n : PN) (rules : Nat) : Bool :=
  decide (0 ≤ n.op) && decide (n.op ≤ 9) && (if n.op ≤ 2 then n.kids.length == 0 else if n.op ≤ 4 then decide (2 ≤ n.kids.length) else n.kids.length == 1) &&
    (if n.op = 2 then decide (0 ≤ n.rule) && decide (n.rule < rules) else n.rule == 0) && (n.op == 1 || (n.s0 == 0 && n.s1 == 0 && n.s2 == 0 && n.s3 == 0))
def nodeBad (ns : List PN) (rules : Nat) (i : Nat) : Bool := match ns[i]? with
  | some n => !madeB n rules
  | none => false
def deepBad (ns : List PN) (i : Nat) : Bool := decide (200 < dpL ns i)
/-- What Check says. -/
inductive Chk where
  | ok
  | large
  | rules (i : Nat)
  | nodes (i : Nat)
  | order
  | deep (i : Nat)
def chkL (rs : List PR) (ns : List PN) : Chk :=
  if 1000 < rs.length ∨ 10000 < ns.length then .large else
  if rs.length = 0 then .rules 0 else
  match fbad (nameBad rs) rs.length 0 with
  | some i => .rules i
  | none => match fbad (nodeBad ns rs.length) ns.length 0 with
    | some i => .nodes i
    | none => if ordR ns rs (-1) then (match fbad (deepBad ns) ns.length 0 with
        | some i => .deep i
        | none => .ok) else .order
/-- What a valid grammar is. -/
theorem chkL_ok {rs : List PR} {ns : List PN} (h : chkL rs ns = .ok) : rs.length ≤ 1000 ∧ ns.length ≤ 10000 ∧ 0 < rs.length ∧ (∀ i, i < rs.length → nameBad rs i = false) ∧ (∀ i, i < ns.length → nodeBad ns rs.length i = false) ∧ ordR ns rs (-1) = true ∧ ∀ i, i < ns.length → dpL ns i ≤ 200 := by
  unfold chkL at h
  split at h
  · cases h
  · split at h
    · cases h
    · split at h
      · cases h
      · split at h
        · cases h
        · split at h
          · split at h
            · cases h
            · rename_i h1 h2 _ h3 _ h4 h5 _ h6
              refine ⟨by omega, by omega, by omega, fun i hi => fbad_none _ 0 h3 i (Nat.zero_le _) (by omega), fun i hi => fbad_none _ 0 h4 i (Nat.zero_le _) (by omega), h5, fun i hi => ?_⟩
              have := fbad_none _ 0 h6 i (Nat.zero_le _) (by omega)
              unfold deepBad at this
              simpa using this
          · cases h
/-- The rule of a node: how many roots at the front are before it. -/
def ownL (rs : List PR) (i : Int) : Nat := (rs.takeWhile fun r => decide (r.root < i)).length
theorem ownL_le (rs : List PR) (i : Int) : ownL rs i ≤ rs.length := by
  unfold ownL
  exact (List.takeWhile_prefix _).length_le
theorem ownL_cons_yes {r : PR} {t : List PR} {i : Int} (h : r.root < i) : ownL (r :: t) i = ownL t i + 1 := by
  unfold ownL; rw [List.takeWhile_cons, if_pos (by simpa using h)]; rfl
theorem ownL_cons_no {r : PR} {t : List PR} {i : Int} (h : ¬ r.root < i) : ownL (r :: t) i = 0 := by
  unfold ownL; rw [List.takeWhile_cons, if_neg (by simpa using h)]; rfl
/-- The roots rise from b on. -/
def RootsUp (b : Int) : List PR → Prop
  | [] => True
  | r :: t => b < r.root ∧ RootsUp r.root t
theorem RootsUp.mem : ∀ {rs : List PR} {b : Int}, RootsUp b rs → ∀ r, r ∈ rs → b < r.root
  | [], _, _, r, h => by cases h
  | x :: t, b, ⟨h1, h2⟩, r, h => by
    rcases List.mem_cons.1 h with rfl | h
    · exact h1
    · have := RootsUp.mem h2 r h; omega
/-- In rising roots, those before a node are just the first ones. -/
theorem ownL_at : ∀ (rs : List PR) (b i : Int), RootsUp b rs → ∀ (j : Nat) (r : PR), rs[j]? = some r → (r.root < i ↔ j < ownL rs i)
  | [], _, _, _, j, r, h => by simp at h
  | x :: t, b, i, ⟨h1, h2⟩, j, r, h => by
    by_cases hx : x.root < i
    · rw [ownL_cons_yes hx]
      cases j with
      | zero => have : x = r := by simpa using h
                subst this; exact ⟨fun _ => Nat.succ_pos _, fun _ => hx⟩
      | succ j =>
        have := ownL_at t x.root i h2 j r (by simpa using h)
        rw [this]; omega
    · rw [ownL_cons_no hx]
      refine ⟨fun hr => ?_, fun h => absurd h (Nat.not_lt_zero _)⟩
      exfalso
      cases j with
      | zero => have : x = r := by simpa using h
                subst this; exact hx hr
      | succ j =>
        have := h2.mem r (List.mem_of_getElem? (by simpa using h : t[j]? = some r))
        omega
end Go.Proofs.Ytnfjbjmdempafaa
namespace Go.Proofs.Ytnfjbjmdempafaa
open Go.RowKit
def fill : List Oper → Nat → (Nat → Bool) → (Nat → Value) → Act → Act
  | [], _, _, _, a => a
  | o :: r, i, L, vals, a => fill r (i + 1) L vals (if L i then a.put o.dst (vals i) else a)
def apartB : List Oper → Bool
  | [] => true
  | o :: r => (r.all fun o' => o.dst.isNone || o'.dst != o.dst) && apartB r
theorem fill_congr : ∀ (l : List Oper) (i : Nat) (L L' : Nat → Bool) (vals vals' : Nat → Value) (a : Act), (∀ k, i ≤ k → L k = L' k ∧ vals k = vals' k) → fill l i L vals a = fill l i L' vals' a
  | [], _, _, _, _, _, _, _ => rfl
  | o :: r, i, L, L', vals, vals', a, h => by
    unfold fill
    rw [(h i (Nat.le_refl _)).1, (h i (Nat.le_refl _)).2]
    exact fill_congr r (i + 1) L L' vals vals' _ fun k hk => h k (by omega)
theorem fill_put : ∀ (l : List Oper) (i : Nat) (L : Nat → Bool) (vals : Nat → Value) (a : Act) (d : Option Tmp) (v : Value), (∀ o, o ∈ l → d = none ∨ o.dst ≠ d) → (fill l i L vals a).put d v = fill l i L vals (a.put d v)
  | [], _, _, _, _, _, _, _ => rfl
  | o :: r, i, L, vals, a, d, v, h => by
    unfold fill
    rw [fill_put r (i + 1) L vals _ d v fun o' ho => h o' (List.mem_cons.2 (Or.inr ho))]
    congr 1
    split
    · rcases h o (List.mem_cons.2 (Or.inl rfl)) with rfl | hne
      · rfl
      · exact Act.put_comm a (vals i) v (fun t ht he => hne (by rw [ht, he]))
    · rfl
theorem apart_head {o : Oper} {r : List Oper} (h : apartB (o :: r) = true) : (∀ o', o' ∈ r → o.dst = none ∨ o'.dst ≠ o.dst) ∧ apartB r = true := by
  unfold apartB at h
  rw [Bool.and_eq_true] at h
  refine ⟨fun o' ho => ?_, h.2⟩
  have := List.all_eq_true.1 h.1 o' ho
  rw [Bool.or_eq_true] at this
  rcases this with h1 | h1
  · exact .inl (by cases hd : o.dst with | none => rfl | some d => rw [hd] at h1; cases h1)
  · exact .inr (by simpa using h1)
theorem fill_set : ∀ (l : List Oper) (i j : Nat) (o : Oper) (L : Nat → Bool) (vals : Nat → Value) (a : Act) (v : Value), apartB l = true → l[j]? = some o → L (i + j) = false →
    (fill l i L vals a).put o.dst v = fill l i (fun k => if k = i + j then true else L k) (fun k => if k = i + j then v else vals k) a
  | [], _, _, _, _, _, _, _, _, h, _ => by cases h
  | o' :: r, i, 0, o, L, vals, a, v, ha, h, hL => by
    cases h
    obtain ⟨h1, -⟩ := apart_head ha
    rw [Nat.add_zero] at hL
    unfold fill
    rw [hL]
    simp only [Bool.false_eq_true, if_false, Nat.add_zero, if_true]
    rw [fill_put r (i + 1) L vals a _ v h1]
    exact fill_congr _ _ _ _ _ _ _ fun k hk => by rw [if_neg (by omega), if_neg (by omega)]; exact ⟨rfl, rfl⟩
  | o' :: r, i, j + 1, o, L, vals, a, v, ha, h, hL => by
    obtain ⟨-, h2⟩ := apart_head ha
    unfold fill
    have hi : (i = i + (j + 1)) = False := by simp
    simp only [hi, if_false]
    rw [show i + (j + 1) = i + 1 + j from by omega] at hL ⊢
    exact fill_set r (i + 1) j o L vals _ v h2 h hL
theorem put_size (a : Act) (d : Option Tmp) (v : Value) : (a.put d v).tmps.size = a.tmps.size := by cases d <;> simp [Act.put]
theorem fill_eval_other : ∀ (l : List Oper) (i : Nat) (L : Nat → Bool) (vals : Nat → Value) (a : Act) (t : Tmp), (∀ o, o ∈ l → o.dst ≠ some t) → (fill l i L vals a).eval (.tmp t) = a.eval (.tmp t)
  | [], _, _, _, _, _, _ => rfl
  | o :: r, i, L, vals, a, t, h => by
    unfold fill
    rw [fill_eval_other r (i + 1) L vals _ t fun o' ho => h o' (List.mem_cons.2 (Or.inr ho))]
    split
    · exact Act.eval_put fun d hd he => h o (List.mem_cons.2 (Or.inl rfl)) (by injection he with he; rw [hd, he])
    · rfl
theorem fill_eval : ∀ (l : List Oper) (i j : Nat) (o : Oper) (d : Tmp) (L : Nat → Bool) (vals : Nat → Value) (a : Act), apartB l = true → l[j]? = some o → o.dst = some d → L (i + j) = true → d < a.tmps.size →
    (fill l i L vals a).eval (.tmp d) = vals (i + j)
  | [], _, _, _, _, _, _, _, _, h, _, _, _ => by cases h
  | o' :: r, i, 0, o, d, L, vals, a, ha, h, hd, hL, hs => by
    cases h
    obtain ⟨h1, -⟩ := apart_head ha
    rw [Nat.add_zero] at hL ⊢
    unfold fill
    rw [hL, if_pos rfl, fill_eval_other r (i + 1) L vals _ d fun o'' ho he => (h1 o'' ho).elim (fun h => by rw [hd] at h; cases h) (fun h => h (by rw [hd, he]))]
    rw [hd]
    simp [Act.eval, Act.put, hs]
  | o' :: r, i, j + 1, o, d, L, vals, a, ha, h, hd, hL, hs => by
    obtain ⟨-, h2⟩ := apart_head ha
    unfold fill
    rw [show i + (j + 1) = i + 1 + j from by omega] at hL ⊢
    refine fill_eval r (i + 1) j o d L vals _ h2 h hd hL ?_
    split
    · rw [put_size]; exact hs
    · exact hs
/-- operation o waits for operation k, whose result lies in slot d -/
def depB (l : List Oper) (o : Oper) (k : Nat) (d : Tmp) : Bool := (o.after.any fun e => e.on == k && Region.binds .any e) && ((l[k]?).bind (·.dst) == some d)
/-- what is owed for one operation -/
def StepOk (P : Program) (l : List Oper) (keep : List Tmp) (a0 : Act) (T : Nat → Value → World → Prop) (S : World → Prop) (Q : Exit → Act → World → Prop) (i : Nat) (o : Oper) : Prop :=
  ∀ (a : Act) (w : World), S w → (∀ t, t ∈ keep → a.eval (.tmp t) = a0.eval (.tmp t)) → (∀ k d, depB l o k d = true → T k (a.eval (.tmp d)) w) →
    if Region.wanted o (yielded l.toArray a.tmps) then o.wp P a w (fun a' w' => ∃ v, a' = a.put o.dst v ∧ T i v w' ∧ Below w.heap.size w w' ∧ S w') Q else T i undef w
def StepsOk (P : Program) (l : List Oper) (keep : List Tmp) (a0 : Act) (T : Nat → Value → World → Prop) (S : World → Prop) (Q : Exit → Act → World → Prop) : Nat → List Oper → Prop
  | _, [] => True
  | i, o :: r => StepOk P l keep a0 T S Q i o ∧ StepsOk P l keep a0 T S Q (i + 1) r
theorem StepsOk.at {P : Program} {l : List Oper} {keep : List Tmp} {a0 : Act} {T : Nat → Value → World → Prop} {S : World → Prop} {Q : Exit → Act → World → Prop} :
    ∀ {r : List Oper} {i : Nat}, StepsOk P l keep a0 T S Q i r → ∀ {j : Nat} {o : Oper}, r[j]? = some o → StepOk P l keep a0 T S Q (i + j) o
  | [], _, _, _, _, h => by cases h
  | o :: r, i, h, 0, o', h' => by cases h'; exact h.1
  | o :: r, i, h, j + 1, o', h' => by rw [show i + (j + 1) = i + 1 + j from by omega]; exact h.2.at h'
theorem wpAny_inv {P : Program} {md : Region.Mode} {ops : Array Oper} {Q : Exit → Act → World → Prop} (I : Array Bool → Act → World → Prop)
    (hstep : ∀ listed a w i o, ops[i]? = some o → i ∈ Region.ready md ops listed → I listed a w → wpOp P ops Q i (I (listed.setIfInBounds i true)) a w)
    (hdone : ∀ listed a w, Region.ready md ops listed = [] → I listed a w → Q .normal a w) :
    ∀ (fuel : Nat) (listed : Array Bool) (a : Act) (w : World), (listed.toList.filter fun b => !b).length ≤ fuel → listed.size = ops.size → I listed a w → wpAny P md ops Q fuel listed a w
  | 0, listed, a, w, hf, hs, hI => by
    have hr : Region.ready md ops listed = [] := by
      rw [List.eq_nil_iff_forall_not_mem]
      intro j hj
      obtain ⟨h1, o, ho, -⟩ := mem_ready.1 hj
      have hj' : j < listed.size := by rw [hs]; exact (Array.getElem?_eq_some_iff.1 ho).1
      have hm : false ∈ listed.toList.filter fun b => !b := by
        rw [List.mem_filter]
        refine ⟨?_, rfl⟩
        rw [Array.getD_eq_getD_getElem?, Array.getElem?_eq_getElem hj'] at h1
        have h1 : listed[j] = false := h1
        rw [← h1]; simp
      have := List.length_pos_of_mem hm
      omega
    exact ⟨hr, hdone _ _ _ hr hI⟩
  | fuel + 1, listed, a, w, hf, hs, hI => by
    refine ⟨fun hr => hdone _ _ _ hr hI, fun i hi => ?_⟩
    obtain ⟨h1, o, ho, -⟩ := mem_ready.1 hi
    have hj' : i < listed.size := by rw [hs]; exact (Array.getElem?_eq_some_iff.1 ho).1
    refine wpOp_mono (fun a' w' h => ?_) (hstep listed a w i o ho hi hI)
    refine wpAny_inv I hstep hdone fuel _ a' w' ?_ (by simpa using hs) h
    rw [Array.getD_eq_getD_getElem?, Array.getElem?_eq_getElem hj'] at h1
    have h1 : listed[i] = false := h1
    rw [Array.toList_setIfInBounds]
    have key : ∀ (l : List Bool) (i : Nat), l[i]? = some false → ((l.set i true).filter fun b => !b).length + 1 = (l.filter fun b => !b).length := by
      intro l
      induction l with
      | nil => intro i h; cases h
      | cons b l ih =>
        intro i h
        cases i with
        | zero => cases h; simp
        | succ i => have := ih i h; cases b <;> simp at this ⊢ <;> omega
    have := key listed.toList i (by rw [Array.getElem?_toList, Array.getElem?_eq_getElem hj', h1])
    omega
/-- every edge leads back -/
def backB : List Oper → Nat → Bool
  | [], _ => true
  | o :: r, i => (o.after.all fun e => decide (e.on < i)) && backB r (i + 1)
theorem backB_at : ∀ {l : List Oper} {i : Nat}, backB l i = true → ∀ {j : Nat} {o : Oper}, l[j]? = some o → ∀ e, e ∈ o.after → e.on < i + j
  | [], _, _, _, _, h => by cases h
  | o :: r, i, h, 0, o', h' => by
    cases h'
    unfold backB at h
    rw [Bool.and_eq_true] at h
    intro e he
    have := Array.all_eq_true'.1 h.1 e he
    simpa using this
  | o :: r, i, h, j + 1, o', h' => by
    unfold backB at h
    rw [Bool.and_eq_true] at h
    intro e he
    have := backB_at h.2 h' e he
    omega
theorem all_listed {l : List Oper} {listed : Array Bool} (hb : backB l 0 = true) (hr : Region.ready .any l.toArray listed = []) (hs : listed.size = l.length) : ∀ k, k < l.length → listed.getD k false = true := by
  intro k
  induction k using Nat.strongRecOn with
  | _ k ih =>
    intro hk
    cases hl : listed.getD k false with
    | true => rfl
    | false =>
      exfalso
      have hm : k ∈ Region.ready .any l.toArray listed := by
        refine mem_ready.2 ⟨?_, l[k], by simp [hk], fun e he _ => ?_⟩
        · rw [Array.getD_eq_getD_getElem?, Array.getElem?_eq_getElem (by omega)] at hl ⊢; exact hl
        · have := backB_at hb (List.getElem?_eq_getElem hk) e he
          exact ih e.on (by omega) (by omega)
      rw [hr] at hm; cases hm
theorem pay_plain {P : Program} {l : List Oper} {o : Oper} {a : Act} {w : World} {R : Act → World → Prop} {Q : Exit → Act → World → Prop} {X : Prop} (hg : o.guard = none) (h : o.wp P a w R Q) :
    if Region.wanted o (yielded l.toArray a.tmps) = true then o.wp P a w R Q else X := by
  rw [if_pos (by simp [Region.wanted, hg])]; exact h
end Go.Proofs.Ytnfjbjmdempafaa
namespace Go.Proofs.Ytnfjbjmdempafaa
open Go.RowKit
/-- operation j waits for operation i -/
def waitsB (l : List Oper) (j i : Nat) : Bool := match l[j]? with
  | some o => o.after.any fun e => e.on == i && Region.binds .any e
  | none => false
/-- what is owed for one operation -/
def StepOn (P : Program) (l : List Oper) (keep : List Tmp) (a0 : Act) (T : Nat → Value → World → Prop) (R : World → World → Prop) (S : (Nat → Bool) → World → Prop) (Q : Exit → Act → World → Prop) (i : Nat) (o : Oper) : Prop :=
  ∀ (L : Nat → Bool) (a : Act) (w : World), L i = false → (∀ j, waitsB l j i = true → L j = false) → S L w → (∀ t, t ∈ keep → a.eval (.tmp t) = a0.eval (.tmp t)) → (∀ k d, depB l o k d = true → T k (a.eval (.tmp d)) w) →
    if Region.wanted o (yielded l.toArray a.tmps) then o.wp P a w (fun a' w' => ∃ v, a' = a.put o.dst v ∧ T i v w' ∧ R w w' ∧ S (fun k => if k = i then true else L k) w') Q else T i undef w ∧ R w w ∧ S (fun k => if k = i then true else L k) w
def StepsOn (P : Program) (l : List Oper) (keep : List Tmp) (a0 : Act) (T : Nat → Value → World → Prop) (R : World → World → Prop) (S : (Nat → Bool) → World → Prop) (Q : Exit → Act → World → Prop) : Nat → List Oper → Prop
  | _, [] => True
  | i, o :: r => StepOn P l keep a0 T R S Q i o ∧ StepsOn P l keep a0 T R S Q (i + 1) r
theorem StepsOn.at {P : Program} {l : List Oper} {keep : List Tmp} {a0 : Act} {T : Nat → Value → World → Prop} {R : World → World → Prop} {S : (Nat → Bool) → World → Prop} {Q : Exit → Act → World → Prop} :
    ∀ {r : List Oper} {i : Nat}, StepsOn P l keep a0 T R S Q i r → ∀ {j : Nat} {o : Oper}, r[j]? = some o → StepOn P l keep a0 T R S Q (i + j) o
  | [], _, _, _, _, h => by cases h
  | o :: r, i, h, 0, o', h' => by cases h'; exact h.1
  | o :: r, i, h, j + 1, o', h' => by rw [show i + (j + 1) = i + 1 + j from by omega]; exact h.2.at h'
theorem on_value {P : Program} {o : Oper} {a : Act} {w : World} {T : Nat → Value → World → Prop} {i : Nat} {R : World → World → Prop} {S : World → Prop} {Q : Exit → Act → World → Prop} (v : Value) (hv : (execOp a.eval o).run P w = .ok (.value v) w) (hT : T i v w) (hR : R w w) (hS : S w) :
    o.wp P a w (fun a' w' => ∃ v, a' = a.put o.dst v ∧ T i v w' ∧ R w w' ∧ S w') Q := by
  unfold Oper.wp
  rw [hv]
  exact ⟨v, rfl, hT, hR, hS⟩
theorem on_skip {P : Program} {o : Oper} {a : Act} {w w' : World} {T : Nat → Value → World → Prop} {i : Nat} {R : World → World → Prop} {S : World → Prop} {Q : Exit → Act → World → Prop} (hv : (execOp a.eval o).run P w = .ok .skip w') (hT : T i undef w') (hR : R w w') (hS : S w') :
    o.wp P a w (fun a' w' => ∃ v, a' = a.put o.dst v ∧ T i v w' ∧ R w w' ∧ S w') Q := by
  unfold Oper.wp
  rw [hv]
  exact ⟨undef, rfl, hT, hR, hS⟩
end Go.Proofs.Ytnfjbjmdempafaa
namespace Go.Proofs.Ytnfjbjmdempafaa
/-- An item: its kind, the number of its kids, its rule, the four words of its set. -/
structure PI where
  op : Int
  kids : Int
  rule : Int
  s0 : Int
  s1 : Int
  s2 : Int
  s3 : Int
/-- A rule with its items. -/
structure PQ where
  name : ByteArray
  items : List PI
theorem PI.eq_iff (n m : PI) : (n.op = m.op ∧ n.kids = m.kids ∧ n.rule = m.rule ∧ n.s0 = m.s0 ∧ n.s1 = m.s1 ∧ n.s2 = m.s2 ∧ n.s3 = m.s3) ↔ n = m := by
  cases n; cases m; simp
instance : DecidableEq PI := fun n m => decidable_of_iff _ (PI.eq_iff n m)
theorem PQ.eq_iff (n m : PQ) : (n.name = m.name ∧ n.items = m.items) ↔ n = m := by
  cases n; cases m; simp
instance : DecidableEq PQ := fun n m => decidable_of_iff _ (PQ.eq_iff n m)
end Go.Proofs.Ytnfjbjmdempafaa
