/- The program's check of the order, by a stack, is the reference's; depths; the rule of a node; names; nodes that are well made; what Check says of a grammar. No walk. -/
import Derived.Test.YtklimoepkifnhaaGramMath
namespace Go.Proofs.Ytklimoepkifnhaa
/-- The stack, the top first, behind the node i with these kids; whether it holds. -/
def popL : List Int → List Int → Option (List Int)
  | [], st => some st
  | _ :: _, [] => none
  | k :: ks, x :: st => if k = x then popL ks st else none
/-- One round of the program's check: the stack and the rule. -/
def stepO (rs : List PR) (n : PN) (i : Int) (st : List Int) (r : Nat) : Option (List Int × Nat) :=
  match popL n.kids.reverse st with
  | none => none
  | some st' => match rs[r]? with
    | none => some (i :: st', r)
    | some x => if x.root = i then (if st' = [] then some ([], r + 1) else none) else some (i :: st', r)
def runO (rs : List PR) : List PN → Int → List Int → Nat → Bool
  | [], _, st, r => st.isEmpty && decide (rs.length ≤ r)
  | n :: ns, i, st, r => match stepO rs n i st r with
    | none => false
    | some (st', r') => runO rs ns (i + 1) st' r'
/-- The stack is what is read backwards from a down to b. -/
def StackIs (ns : List PN) : List Int → Int → Int → Prop
  | [], a, b => a = b
  | x :: st, a, b => x = a ∧ exL ns x ≠ -2 ∧ b < x ∧ StackIs ns st (exL ns x) b
theorem StackIs.le {ns : List PN} : ∀ {st : List Int} {a b : Int}, StackIs ns st a b → b ≤ a
  | [], _, _, h => Int.le_of_eq h.symm
  | x :: st, a, b, ⟨h1, h2, h3, h4⟩ => by omega
/-- Taking the kids from the stack is reading them backwards. -/
theorem pop_chain {ns : List PN} : ∀ (ks st : List Int) (a b : Int), -1 ≤ b → StackIs ns st a b → ∀ st', popL ks st = some st' → chainL (exL ns) ks a ≠ -2 ∧ StackIs ns st' (chainL (exL ns) ks a) b
  | [], st, a, b, hb, hs, st', h => by
    cases h
    refine ⟨?_, hs⟩
    have := hs.le
    show a ≠ -2
    omega
  | k :: ks, [], a, b, _, hs, st', h => by cases h
  | k :: ks, x :: st, a, b, hb, ⟨h1, h2, h3, h4⟩, st', h => by
    have hd : popL (k :: ks) (x :: st) = if k = x then popL ks st else none := rfl
    by_cases hk : k = x
    · rw [hd, if_pos hk] at h
      subst hk; subst h1
      have := pop_chain ks st (exL ns k) b hb h4 st' h
      rw [chainL_step h2]; exact this
    · rw [hd, if_neg hk] at h; cases h
theorem chain_le {ns : List PN} (ks : List Int) (a : Int) (h : chainL (exL ns) ks a ≠ -2) : chainL (exL ns) ks a ≤ a :=
  (chain_range (a + 1) (fun j _ hje x h1 h2 => ex_between hje h1 h2) ks a (by omega) h).1
theorem chain_pop {ns : List PN} : ∀ (ks st : List Int) (a b : Int), StackIs ns st a b → chainL (exL ns) ks a ≠ -2 → b ≤ chainL (exL ns) ks a → ∃ st', popL ks st = some st'
  | [], st, a, b, _, _, _ => ⟨st, rfl⟩
  | k :: ks, [], a, b, hs, he, hb => by
    obtain ⟨rfl, h1, h2⟩ := chainL_cons he
    rw [h2] at he hb
    have h3 := chain_le ks _ he
    have h4 := exL_lt ns k h1
    have h5 : k = b := hs
    omega
  | k :: ks, x :: st, a, b, ⟨h1, h2, h3, h4⟩, he, hb => by
    obtain ⟨rfl, h5, h6⟩ := chainL_cons he
    subst h1
    rw [h6] at he hb
    have hd : popL (x :: ks) (x :: st) = if x = x then popL ks st else none := rfl
    rw [hd, if_pos rfl]
    exact chain_pop ks st _ b h4 he hb
theorem stepO_none {rs : List PR} {n : PN} {i : Int} {st : List Int} {r : Nat} (h : popL n.kids.reverse st = none) : stepO rs n i st r = none := by unfold stepO; rw [h]
theorem stepO_end {rs : List PR} {n : PN} {i : Int} {st st' : List Int} {r : Nat} (h : popL n.kids.reverse st = some st') (hr : rs[r]? = none) : stepO rs n i st r = some (i :: st', r) := by
  unfold stepO; rw [h]; dsimp only; rw [hr]
theorem stepO_root {rs : List PR} {n : PN} {i : Int} {st : List Int} {r : Nat} {x : PR} (h : popL n.kids.reverse st = some []) (hr : rs[r]? = some x) (hx : x.root = i) : stepO rs n i st r = some ([], r + 1) := by
  unfold stepO; rw [h]; dsimp only; rw [hr]; dsimp only; rw [if_pos hx, if_pos rfl]
theorem stepO_left {rs : List PR} {n : PN} {i y : Int} {st st' : List Int} {r : Nat} {x : PR} (h : popL n.kids.reverse st = some (y :: st')) (hr : rs[r]? = some x) (hx : x.root = i) : stepO rs n i st r = none := by
  unfold stepO; rw [h]; dsimp only; rw [hr]; dsimp only; rw [if_pos hx, if_neg (by simp)]
theorem stepO_in {rs : List PR} {n : PN} {i : Int} {st st' : List Int} {r : Nat} {x : PR} (h : popL n.kids.reverse st = some st') (hr : rs[r]? = some x) (hx : x.root ≠ i) : stepO rs n i st r = some (i :: st', r) := by
  unfold stepO; rw [h]; dsimp only; rw [hr]; dsimp only; rw [if_neg hx]
theorem runO_none {rs : List PR} {n : PN} {ns : List PN} {i : Int} {st : List Int} {r : Nat} (h : stepO rs n i st r = none) : runO rs (n :: ns) i st r = false := by
  show (match stepO rs n i st r with | none => false | some (st', r') => runO rs ns (i + 1) st' r') = _
  rw [h]
theorem runO_some {rs : List PR} {n : PN} {ns : List PN} {i : Int} {st st' : List Int} {r r' : Nat} (h : stepO rs n i st r = some (st', r')) : runO rs (n :: ns) i st r = runO rs ns (i + 1) st' r' := by
  show (match stepO rs n i st r with | none => false | some (st', r') => runO rs ns (i + 1) st' r') = _
  rw [h]
/-- The program's check from a node on is the reference's. -/
theorem runO_ord {rs : List PR} {ns : List PN} : ∀ (rest : List PN) (i : Nat) (st : List Int) (r : Nat) (b : Int), ns.drop i = rest → i ≤ ns.length → r ≤ rs.length → -1 ≤ b → StackIs ns st ((i : Int) - 1) b →
    (∀ x, rs[r]? = some x → x.root ≤ b ∨ (i : Int) ≤ x.root) → runO rs rest i st r = ordR ns (rs.drop r) b
  | [], i, st, r, b, hd, hi, hr, hb, hs, hx => by
    have hin : i = ns.length := by
      have := congrArg List.length hd
      rw [List.length_drop, List.length_nil] at this; omega
    show (st.isEmpty && decide (rs.length ≤ r)) = _
    by_cases hrl : rs.length ≤ r
    · rw [List.drop_eq_nil_of_le hrl]
      show _ = (b == (ns.length : Int) - 1)
      cases st with
      | nil =>
        have h1 : (i : Int) - 1 = b := hs
        simp [hrl]; omega
      | cons x st =>
        obtain ⟨h1, h2, h3, h4⟩ := hs
        simp; omega
    · obtain ⟨x, hq⟩ : ∃ x, rs[r]? = some x := ⟨_, List.getElem?_eq_getElem (by omega)⟩
      have hq2 := (List.getElem?_eq_some_iff.1 hq)
      rw [List.drop_eq_getElem_cons (by omega), hq2.2]
      have := hx x hq
      show _ = (if x.root ≤ b ∨ (ns.length : Int) ≤ x.root ∨ exL ns x.root ≠ b then false else _)
      rw [if_pos (by omega), decide_eq_false (by omega), Bool.and_false]
  | n :: rest, i, st, r, b, hd, hi, hr, hb, hs, hx => by
    have hil : i < ns.length := by
      rcases Nat.lt_or_ge i ns.length with h | h
      · exact h
      · rw [List.drop_eq_nil_of_le h] at hd; cases hd
    have hcons := List.drop_eq_getElem_cons hil
    rw [hd] at hcons
    have hn : ns[i]? = some n := by rw [List.getElem?_eq_getElem hil]; injection hcons with h1 h2; rw [h1]
    have hd' : ns.drop (i + 1) = rest := by injection hcons with h1 h2; exact h2.symm
    have he : exL ns i = chainL (exL ns) n.kids.reverse ((i : Int) - 1) := by
      rw [exL_eq ns i (by omega), show (i : Int).toNat = i by omega, kidsAt_some hn]
    have hle := hs.le
    cases hp : popL n.kids.reverse st with
    | none =>
      rw [runO_none (stepO_none hp)]
      cases ho : ordR ns (rs.drop r) b with
      | false => rfl
      | true =>
        have h1 := (ordR_all _ b hb ho).2 i (by omega) (by omega)
        rw [he] at h1
        obtain ⟨st', h2⟩ := chain_pop _ st _ b hs h1.1 h1.2
        rw [h2] at hp; cases hp
    | some st' =>
      have hc := pop_chain _ st _ b hb hs st' hp
      rw [← he] at hc
      have hnew : StackIs ns ((i : Int) :: st') (((i + 1 : Nat) : Int) - 1) b := ⟨by omega, hc.1, by omega, hc.2⟩
      cases hrx : rs[r]? with
      | none =>
        rw [runO_some (stepO_end hp hrx), show (i : Int) + 1 = ((i + 1 : Nat) : Int) by omega]
        exact runO_ord rest (i + 1) _ r b hd' (by omega) hr hb hnew (fun x h => by rw [hrx] at h; cases h)
      | some x =>
        have hrl := (List.getElem?_eq_some_iff.1 hrx)
        have hrl1 := hrl.1
        have hcd : rs.drop r = x :: rs.drop (r + 1) := by rw [List.drop_eq_getElem_cons hrl.1, hrl.2]
        by_cases hxi : x.root = i
        · cases st' with
          | nil =>
            have hb2 : exL ns (i : Int) = b := hc.2
            rw [runO_some (stepO_root hp hrx hxi), hcd, ordR_mk (by omega) (by omega) (by rw [hxi]; exact hb2), show (i : Int) + 1 = ((i + 1 : Nat) : Int) by omega]
            rw [runO_ord rest (i + 1) [] (r + 1) i hd' (by omega) (by omega) (by omega) (show ((i + 1 : Nat) : Int) - 1 = i by omega) (fun y _ => by omega), hxi]
          | cons y st'' =>
            rw [runO_none (stepO_left hp hrx hxi), hcd]
            have h0 : y = exL ns i ∧ exL ns y ≠ -2 ∧ b < y ∧ StackIs ns st'' (exL ns y) b := hc.2
            have h1 := h0.1
            have h3 := h0.2.2.1
            have hne : exL ns x.root ≠ b := by rw [hxi, ← h1]; omega
            show _ = (if x.root ≤ b ∨ (ns.length : Int) ≤ x.root ∨ exL ns x.root ≠ b then false else _)
            rw [if_pos (Or.inr (Or.inr hne))]
        · rw [runO_some (stepO_in hp hrx hxi), show (i : Int) + 1 = ((i + 1 : Nat) : Int) by omega]
          exact runO_ord rest (i + 1) _ r b hd' (by omega) hr hb hnew (fun z h => by
            have h1 := hx z h
            rw [hrx] at h
            obtain rfl := Option.some.inj h
            omega)
theorem runO_is (rs : List PR) (ns : List PN) : runO rs ns 0 [] 0 = ordR ns rs (-1) := by
  have := runO_ord (rs := rs) (ns := ns) ns 0 [] 0 (-1) rfl (Nat.zero_le _) (Nat.zero_le _) (by omega) (show ((0 : Nat) : Int) - 1 = -1 by omega) (fun x _ => by omega)
  exact this
/-- The greatest depth of kids, and the depths of all nodes. -/
def maxK (ds : List Nat) (ks : List Int) : Nat := ks.foldl (fun m k => max m (ds.getD k.toNat 0)) 0
def depsL (ns : List PN) : List Nat := ns.foldl (fun ds n => ds ++ [maxK ds n.kids + 1]) []
theorem depsL_snoc (ns : List PN) (n : PN) : depsL (ns ++ [n]) = depsL ns ++ [maxK (depsL ns) n.kids + 1] := by unfold depsL; rw [List.foldl_append]; rfl
theorem depsL_length (ns : List PN) : (depsL ns).length = ns.length := by
  have key : ∀ (ns : List PN) (ds : List Nat), (ns.foldl (fun ds n => ds ++ [maxK ds n.kids + 1]) ds).length = ds.length + ns.length := by
    intro ns
    induction ns with
    | nil => intro ds; rfl
    | cons n ns ih => intro ds; rw [List.foldl_cons, ih, List.length_append, List.length_singleton, List.length_cons]; omega
  have := key ns []
  rw [List.length_nil, Nat.zero_add] at this
  exact this
theorem depsL_take (ns : List PN) : ∀ (m i : Nat), i + m = ns.length → (depsL ns).take i = depsL (ns.take i)
  | 0, i, h => by rw [List.take_of_length_le (by rw [depsL_length]; omega), List.take_of_length_le (by omega)]
  | m + 1, i, h => by
    have ih := depsL_take ns m (i + 1) (by omega)
    rw [List.take_succ_eq_append_getElem (by omega : i < ns.length), depsL_snoc] at ih
    have h2 := congrArg (List.take i) ih
    have hl : (depsL (ns.take i)).length = i := by rw [depsL_length, List.length_take]; omega
    rw [List.take_take, Nat.min_eq_left (Nat.le_succ i), List.take_append_of_le_length (by omega)] at h2
    rw [h2, List.take_of_length_le (by omega)]
def dpL (ns : List PN) (i : Nat) : Nat := (depsL ns).getD i 0
theorem dpL_take (ns : List PN) (i k : Nat) (hk : k < i) (hi : i ≤ ns.length) : (depsL (ns.take i)).getD k 0 = dpL ns k := by
  rw [← depsL_take ns (ns.length - i) i (by omega)]
  unfold dpL
  simp only [List.getD]
  rw [List.getElem?_take, if_pos hk]
theorem maxK_congr {ds es : List Nat} : ∀ (ks : List Int) (m : Nat), (∀ k, k ∈ ks → ds.getD k.toNat 0 = es.getD k.toNat 0) → ks.foldl (fun m k => max m (ds.getD k.toNat 0)) m = ks.foldl (fun m k => max m (es.getD k.toNat 0)) m
  | [], _, _ => rfl
  | k :: ks, m, h => by
    rw [List.foldl_cons, List.foldl_cons, h k List.mem_cons_self]
    exact maxK_congr ks _ (fun x hx => h x (List.mem_cons_of_mem _ hx))
theorem dpL_eq {ns : List PN} (hk : KidsBelow ns) {i : Nat} {n : PN} (hn : ns[i]? = some n) : dpL ns i = maxK (depsL ns) n.kids + 1 := by
  obtain ⟨hi, hni⟩ := List.getElem?_eq_some_iff.1 hn
  have h1 := dpL_take ns (i + 1) i (Nat.lt_succ_self _) hi
  rw [← h1, List.take_succ_eq_append_getElem hi, depsL_snoc, hni]
  simp only [List.getD]
  have hl : (depsL (ns.take i)).length = i := by rw [depsL_length, List.length_take]; omega
  rw [List.getElem?_append_right (by omega), hl, Nat.sub_self]
  show maxK _ _ + 1 = _
  unfold maxK
  rw [maxK_congr (es := depsL ns) n.kids 0 (fun k hm => by
    have := hk i n hn k hm
    exact dpL_take ns i k.toNat (by omega) (by omega))]
theorem maxK_le {ds : List Nat} {b : Nat} : ∀ (ks : List Int) (m : Nat), m ≤ b → (∀ k, k ∈ ks → ds.getD k.toNat 0 ≤ b) → ks.foldl (fun m k => max m (ds.getD k.toNat 0)) m ≤ b
  | [], _, hm, _ => hm
  | k :: ks, m, hm, h => by
    rw [List.foldl_cons]
    have := h k List.mem_cons_self
    exact maxK_le ks _ (by omega) (fun x hx => h x (List.mem_cons_of_mem _ hx))
theorem dpL_le {ns : List PN} (hk : KidsBelow ns) : ∀ (m i : Nat), i < m → i < ns.length → dpL ns i ≤ i + 1
  | 0, i, h, _ => absurd h (Nat.not_lt_zero _)
  | m + 1, i, h, hi => by
    obtain ⟨n, hn⟩ : ∃ n, ns[i]? = some n := ⟨_, List.getElem?_eq_getElem hi⟩
    rw [dpL_eq hk hn]
    have := maxK_le (ds := depsL ns) (b := i) n.kids 0 (Nat.zero_le _) (fun k hm => by
      have h1 := hk i n hn k hm
      have h2 := dpL_le hk m k.toNat (by omega) (by omega)
      show dpL ns k.toNat ≤ i
      omega)
    unfold maxK
    omega
/-- The reference's depth, up to a greatest one. -/
def rdF (ns : List PN) : Nat → Int → Nat
  | 0, _ => 1
  | m + 1, i => (kidsAt ns i.toNat).foldl (fun d k => max d (rdF ns m k)) 0 + 1
theorem rdF_is {ns : List PN} (hk : KidsBelow ns) : ∀ (m : Nat) (i : Int), 0 ≤ i → i < ns.length → rdF ns m i = min (dpL ns i.toNat) (m + 1)
  | 0, i, h0, hi => by
    obtain ⟨n, hn⟩ : ∃ n, ns[i.toNat]? = some n := ⟨_, List.getElem?_eq_getElem (by omega)⟩
    rw [dpL_eq hk hn]
    show 1 = _
    omega
  | m + 1, i, h0, hi => by
    obtain ⟨n, hn⟩ : ∃ n, ns[i.toNat]? = some n := ⟨_, List.getElem?_eq_getElem (by omega)⟩
    show (kidsAt ns i.toNat).foldl (fun d k => max d (rdF ns m k)) 0 + 1 = _
    rw [dpL_eq hk hn, kidsAt_some hn]
    have key : ∀ (ks : List Int) (d e : Nat), (∀ k, k ∈ ks → 0 ≤ k ∧ k < (i.toNat : Int)) → d = min e (m + 1) → ks.foldl (fun d k => max d (rdF ns m k)) d = min (ks.foldl (fun m k => max m ((depsL ns).getD k.toNat 0)) e) (m + 1) := by
      intro ks
      induction ks with
      | nil => intro d e _ h; exact h
      | cons k ks ih =>
        intro d e hb h
        rw [List.foldl_cons, List.foldl_cons]
        refine ih _ _ (fun x hx => hb x (List.mem_cons_of_mem _ hx)) ?_
        have hk1 := hb k List.mem_cons_self
        rw [rdF_is hk m k hk1.1 (by omega), h]
        show _ = min (max e (dpL ns k.toNat)) (m + 1)
        omega
    have := key n.kids 0 0 (hk i.toNat n hn) (by omega)
    rw [this]
    unfold maxK
    omega
/-- The first index from i on, of m, that has the property. -/
def fbad (p : Nat → Bool) : Nat → Nat → Option Nat
  | 0, _ => none
  | m + 1, i => if p i then some i else fbad p m (i + 1)
theorem fbad_yes {p : Nat → Bool} {m i : Nat} (h : p i = true) : fbad p (m + 1) i = some i := by
  show (if p i then some i else fbad p m (i + 1)) = _
  rw [if_pos h]
theorem fbad_no {p : Nat → Bool} {m i : Nat} (h : p i = false) : fbad p (m + 1) i = fbad p m (i + 1) := by
  show (if p i then some i else fbad p m (i + 1)) = _
  rw [if_neg (by rw [h]; exact Bool.false_ne_true)]
theorem fbad_lt {p : Nat → Bool} : ∀ (m i k : Nat), fbad p m i = some k → i ≤ k ∧ k < i + m ∧ p k = true
  | 0, i, k, h => by cases h
  | m + 1, i, k, h => by
    cases hp : p i with
    | true => rw [fbad_yes hp] at h; cases h; exact ⟨Nat.le_refl _, by omega, hp⟩
    | false => rw [fbad_no hp] at h; have := fbad_lt m (i + 1) k h; exact ⟨by omega, by omega, this.2.2⟩
theorem fbad_none {p : Nat → Bool} : ∀ (m i : Nat), fbad p m i = none → ∀ k, i ≤ k → k < i + m → p k = false
  | 0, i, _, k, h1, h2 => by omega
  | m + 1, i, h, k, h1, h2 => by
    cases hp : p i with
    | true => rw [fbad_yes hp] at h; cases h
    | false =>
      rw [fbad_no hp] at h
      by_cases hk : k = i
      · subst hk; exact hp
      · exact fbad_none m (i + 1) h k (by omega) (by omega)
theorem fbad_congr {p q : Nat → Bool} : ∀ (m i : Nat), (∀ k, i ≤ k → k < i + m → p k = q k) → fbad p m i = fbad q m i
  | 0, i, _ => rfl
  | m + 1, i, h => by
    have h0 := h i (Nat.le_refl _) (by omega)
    cases hp : p i with
    | true => rw [fbad_yes hp, fbad_yes (by rw [← h0]; exact hp)]
    | false => rw [fbad_no hp, fbad_no (by rw [← h0]; exact hp)]; exact fbad_congr m (i + 1) (fun k h1 h2 => h k (by omega) (by omega))
/-- A rule's name is no identifier, or that of an earlier rule. -/
def nameBad (rs : List PR) (i : Nat) : Bool := match rs[i]? with
  | some r => (rs.take i).any (fun x => decide (x.name = r.name)) || !nameB (bts r.name)
  | none => false
/-- A node is well made. -/
def madeB (n : PN) (rules : Nat) : Bool :=
  decide (0 ≤ n.op) && decide (n.op ≤ 9) && (if n.op ≤ 2 then n.kids.length == 0 else if n.op ≤ 4 then decide (2 ≤ n.kids.length) else n.kids.length == 1) &&
    (if n.op = 2 then decide (0 ≤ n.rule) && decide (n.rule < rules) else n.rule == 0) && (n.op == 1 || (n.s0 == 0 && n.s1 == 0 && n.s2 == 0 && n.s3 == 0))
def nodeBad (ns : List PN) (rules : Nat) (i : Nat) : Bool := match ns[i]? with
  | some n => !madeB n rules
  | none => false
def deepBad (ns : List PN) (i : Nat) : Bool := decide (200 < dpL ns i)
/-- What Check says. -/
inductive Chk where
  | ok
  | large
  | rules (i : Nat)
  | nodes (i : Nat)
  | order
  | deep (i : Nat)
def chkL (rs : List PR) (ns : List PN) : Chk :=
  if 1000 < rs.length ∨ 10000 < ns.length then .large else
  if rs.length = 0 then .rules 0 else
  match fbad (nameBad rs) rs.length 0 with
  | some i => .rules i
  | none => match fbad (nodeBad ns rs.length) ns.length 0 with
    | some i => .nodes i
    | none => if ordR ns rs (-1) then (match fbad (deepBad ns) ns.length 0 with
        | some i => .deep i
        | none => .ok) else .order
/-- What a valid grammar is. -/
theorem chkL_ok {rs : List PR} {ns : List PN} (h : chkL rs ns = .ok) : rs.length ≤ 1000 ∧ ns.length ≤ 10000 ∧ 0 < rs.length ∧ (∀ i, i < rs.length → nameBad rs i = false) ∧ (∀ i, i < ns.length → nodeBad ns rs.length i = false) ∧ ordR ns rs (-1) = true ∧ ∀ i, i < ns.length → dpL ns i ≤ 200 := by
  unfold chkL at h
  split at h
  · cases h
  · split at h
    · cases h
    · split at h
      · cases h
      · split at h
        · cases h
        · split at h
          · split at h
            · cases h
            · rename_i h1 h2 _ h3 _ h4 h5 _ h6
              refine ⟨by omega, by omega, by omega, fun i hi => fbad_none _ 0 h3 i (Nat.zero_le _) (by omega), fun i hi => fbad_none _ 0 h4 i (Nat.zero_le _) (by omega), h5, fun i hi => ?_⟩
              have := fbad_none _ 0 h6 i (Nat.zero_le _) (by omega)
              unfold deepBad at this
              simpa using this
          · cases h
/-- The rule of a node: how many roots at the front are before it. -/
def ownL (rs : List PR) (i : Int) : Nat := (rs.takeWhile fun r => decide (r.root < i)).length
theorem ownL_le (rs : List PR) (i : Int) : ownL rs i ≤ rs.length := by
  unfold ownL
  exact (List.takeWhile_prefix _).length_le
theorem ownL_cons_yes {r : PR} {t : List PR} {i : Int} (h : r.root < i) : ownL (r :: t) i = ownL t i + 1 := by
  unfold ownL; rw [List.takeWhile_cons, if_pos (by simpa using h)]; rfl
theorem ownL_cons_no {r : PR} {t : List PR} {i : Int} (h : ¬ r.root < i) : ownL (r :: t) i = 0 := by
  unfold ownL; rw [List.takeWhile_cons, if_neg (by simpa using h)]; rfl
/-- The roots rise from b on. -/
def RootsUp (b : Int) : List PR → Prop
  | [] => True
  | r :: t => b < r.root ∧ RootsUp r.root t
theorem ordR_up {ns : List PN} : ∀ (rs : List PR) (b : Int), ordR ns rs b = true → RootsUp b rs
  | [], _, _ => trivial
  | _ :: t, _, h => ⟨(ordR_cons h).1, ordR_up t _ (ordR_cons h).2.2.2⟩
theorem RootsUp.mem : ∀ {rs : List PR} {b : Int}, RootsUp b rs → ∀ r, r ∈ rs → b < r.root
  | [], _, _, r, h => by cases h
  | x :: t, b, ⟨h1, h2⟩, r, h => by
    rcases List.mem_cons.1 h with rfl | h
    · exact h1
    · have := RootsUp.mem h2 r h; omega
/-- In rising roots, those before a node are just the first ones. -/
theorem ownL_at : ∀ (rs : List PR) (b i : Int), RootsUp b rs → ∀ (j : Nat) (r : PR), rs[j]? = some r → (r.root < i ↔ j < ownL rs i)
  | [], _, _, _, j, r, h => by simp at h
  | x :: t, b, i, ⟨h1, h2⟩, j, r, h => by
    by_cases hx : x.root < i
    · rw [ownL_cons_yes hx]
      cases j with
      | zero => have : x = r := by simpa using h
                subst this; exact ⟨fun _ => Nat.succ_pos _, fun _ => hx⟩
      | succ j =>
        have := ownL_at t x.root i h2 j r (by simpa using h)
        rw [this]; omega
    · rw [ownL_cons_no hx]
      refine ⟨fun hr => ?_, fun h => absurd h (Nat.not_lt_zero _)⟩
      exfalso
      cases j with
      | zero => have : x = r := by simpa using h
                subst this; exact hx hr
      | succ j =>
        have := h2.mem r (List.mem_of_getElem? (by simpa using h : t[j]? = some r))
        omega
/-- Each node has a rule, and its expression lies within this rule. -/
theorem ownL_ord {ns : List PN} : ∀ (rs : List PR) (b : Int), -1 ≤ b → ordR ns rs b = true → ∀ i, b < i → i < ns.length → ownL rs i < rs.length ∧ ownL rs (exL ns i + 1) = ownL rs i
  | [], b, _, h, i, h1, h2 => by
    have : b = (ns.length : Int) - 1 := by simpa [ordR] using h
    omega
  | r :: t, b, hb, h, i, h1, h2 => by
    obtain ⟨a1, a2, a3, a4⟩ := ordR_cons h
    by_cases hi : r.root < i
    · have ih := ownL_ord t r.root (by omega) a4 i hi h2
      have he := (ordR_all t r.root (by omega) a4).2 i hi h2
      rw [ownL_cons_yes hi, ownL_cons_yes (by omega : r.root < exL ns i + 1), ih.2, List.length_cons]
      exact ⟨by omega, rfl⟩
    · have he := ex_between (ns := ns) (i := r.root) (x := i) (by omega) (by omega) (by omega)
      have hl := exL_lt ns i he.1
      rw [ownL_cons_no hi, ownL_cons_no (by omega : ¬ r.root < exL ns i + 1), List.length_cons]
      exact ⟨by omega, rfl⟩
end Go.Proofs.Ytklimoepkifnhaa
