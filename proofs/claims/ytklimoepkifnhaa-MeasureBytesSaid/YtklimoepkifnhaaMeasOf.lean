/- measure: the arithmetic, own helpers, Of and its reference. -/
import Derived.Test.YtklimoepkifnhaaGramOrd
import Derived.Test.YtklimoepkifnhaaRunMath
import Derived.Test.YtklimoepkifnhaaSetRef3
import Derived.Test.YtklimoepkifnhaaBuildOwn
import Derived.Test.YtklimoepkifnhaaGramDeps
import Derived.Test.YtklimoepkifnhaaGramDep
import Derived.Deep.Cut
import Derived.Deep.RegionWith
namespace Go.Proofs.Ytklimoepkifnhaa
section
/- 1. Sizes. -/
def opN (ns : List PN) (k : Nat) : Nat := (ns.filter fun n => decide (n.op = (k : Int))).length
def leafN (ns : List PN) : Nat := (ns.filter fun n => decide (n.kids.length = 0)).length
def maxL (l : List Nat) : Nat := l.foldl max 0
def kidsN (ns : List PN) : Nat := (ns.map fun n => n.kids.length).sum
theorem opN_snoc (ns : List PN) (n : PN) (k : Nat) : opN (ns ++ [n]) k = opN ns k + (if n.op = (k : Int) then 1 else 0) := by
  unfold opN; rw [List.filter_append, List.length_append]
  by_cases h : n.op = (k : Int) <;> simp [h]
theorem leafN_snoc (ns : List PN) (n : PN) : leafN (ns ++ [n]) = leafN ns + (if n.kids.length = 0 then 1 else 0) := by
  unfold leafN; rw [List.filter_append, List.length_append]
  by_cases h : n.kids.length = 0
  · rw [List.filter_cons_of_pos (by simpa using h), if_pos h]; rfl
  · rw [List.filter_cons_of_neg (by simpa using h), if_neg h]; rfl
theorem maxL_snoc (l : List Nat) (x : Nat) : maxL (l ++ [x]) = max (maxL l) x := by unfold maxL; rw [List.foldl_append]; rfl
theorem kidsN_snoc (ns : List PN) (n : PN) : kidsN (ns ++ [n]) = kidsN ns + n.kids.length := by
  unfold kidsN; rw [List.map_append, List.sum_append]; simp
theorem opN_le (ns : List PN) (k : Nat) : opN ns k ≤ ns.length := List.length_filter_le _ _
theorem leafN_le (ns : List PN) : leafN ns ≤ ns.length := List.length_filter_le _ _
theorem maxL_le {b : Nat} : ∀ (l : List Nat), (∀ x, x ∈ l → x ≤ b) → maxL l ≤ b := by
  have key : ∀ (l : List Nat) (m : Nat), m ≤ b → (∀ x, x ∈ l → x ≤ b) → l.foldl max m ≤ b := by
    intro l
    induction l with
    | nil => intro m hm _; exact hm
    | cons a t ih => intro m hm h; exact ih (max m a) (by have := h a (by simp); omega) (fun x hx => h x (by simp [hx]))
  exact fun l h => key l 0 (Nat.zero_le _) h
def sumR (f : Nat → Nat) : Nat → Nat
  | 0 => 0
  | k + 1 => sumR f k + f k
theorem sumR_add (f g : Nat → Nat) : ∀ k, sumR (fun i => f i + g i) k = sumR f k + sumR g k
  | 0 => rfl
  | k + 1 => by show sumR (fun i => f i + g i) k + (f k + g k) = sumR f k + f k + (sumR g k + g k); rw [sumR_add f g k]; omega
theorem sumR_congr {f g : Nat → Nat} : ∀ k, (∀ i, i < k → f i = g i) → sumR f k = sumR g k
  | 0, _ => rfl
  | k + 1, h => by show sumR f k + f k = sumR g k + g k; rw [sumR_congr k (fun i hi => h i (by omega)), h k (by omega)]
theorem sumR_zero : ∀ k, sumR (fun _ => 0) k = 0
  | 0 => rfl
  | k + 1 => sumR_zero k
theorem sumR_one (j : Nat) : ∀ k, sumR (fun i => if j = i then 1 else 0) k = if j < k then 1 else 0
  | 0 => rfl
  | k + 1 => by
    show sumR (fun i => if j = i then 1 else 0) k + (if j = k then 1 else 0) = _
    rw [sumR_one j k]
    by_cases h : j < k
    · rw [if_pos h, if_neg (by omega), if_pos (by omega)]
    · by_cases e : j = k
      · rw [if_neg h, if_pos e, if_pos (by omega)]
      · rw [if_neg h, if_neg e, if_neg (by omega)]
theorem opN_sum : ∀ (ns : List PN), (∀ n, n ∈ ns → 0 ≤ n.op ∧ n.op ≤ 9) → sumR (opN ns) 10 = ns.length := by
  intro ns
  induction ns with
  | nil => intro _; rfl
  | cons n t ih =>
    intro h
    have h1 := ih (fun x hx => h x (by simp [hx]))
    obtain ⟨h2, h3⟩ := h n (by simp)
    have e : sumR (opN (n :: t)) 10 = sumR (fun k => opN t k + (if n.op.toNat = k then 1 else 0)) 10 := by
      refine sumR_congr 10 (fun i _ => ?_)
      unfold opN
      by_cases hi : n.op = (i : Int)
      · rw [List.filter_cons_of_pos (by simp [hi]), if_pos (by omega)]; rfl
      · rw [List.filter_cons_of_neg (by simp [hi]), if_neg (by omega)]; rfl
    rw [e, sumR_add, h1, sumR_one, if_pos (by omega)]; rfl
theorem opN_take {ns : List PN} {k q : Nat} {n : PN} (hn : ns[k]? = some n) (hq : n.op = (q : Int)) (j : Nat) : opN (ns.take (k + 1)) j = opN (ns.take k) j + (if q = j then 1 else 0) := by
  rw [take_snoc' ns k n hn, opN_snoc, hq]
  congr 1
  by_cases e : q = j
  · rw [if_pos (by omega), if_pos e]
  · rw [if_neg (by omega), if_neg e]
theorem leafN_take {ns : List PN} {k : Nat} {n : PN} (hn : ns[k]? = some n) : leafN (ns.take (k + 1)) = leafN (ns.take k) + (if n.kids.length = 0 then 1 else 0) := by
  rw [take_snoc' ns k n hn, leafN_snoc]
/- 2. Rules and kids. -/
def ksI (ns : List PN) (a : Int) : Int := (kidsN (ns.take (a + 1).toNat) : Int)
theorem ksI_step {ns : List PN} {i : Nat} {n : PN} (h : ns[i]? = some n) : ksI ns (i : Int) = ksI ns ((i : Int) - 1) + (n.kids.length : Int) := by
  unfold ksI
  rw [show ((i : Int) + 1).toNat = i + 1 by omega, show ((i : Int) - 1 + 1).toNat = i by omega, take_snoc' ns i n h, kidsN_snoc]
  omega
theorem ks_chain {ns : List PN} : ∀ (ks : List Int) (a : Int), (∀ j, j ≤ a → exL ns j ≠ -2 → ksI ns j - ksI ns (exL ns j) = j - exL ns j - 1) → chainL (exL ns) ks a ≠ -2 → ksI ns a - ksI ns (chainL (exL ns) ks a) = a - chainL (exL ns) ks a - (ks.length : Int)
  | [], a, _, _ => by show ksI ns a - ksI ns a = a - a - 0; omega
  | k :: ks, a, h, hc => by
    obtain ⟨rfl, he, hs⟩ := chainL_cons hc
    have h1 := exL_lt ns k he
    rw [hs] at hc ⊢
    have h2 := ks_chain ks (exL ns k) (fun j hj hje => h j (by omega) hje) hc
    have h3 := h k (Int.le_refl _) he
    rw [List.length_cons]
    omega
theorem ks_node {ns : List PN} : ∀ (m : Nat) (i : Int), i < m → i < ns.length → exL ns i ≠ -2 → ksI ns i - ksI ns (exL ns i) = i - exL ns i - 1
  | 0, i, h, _, he => by have := exL_lt ns i he; omega
  | m + 1, i, h, hl, he => by
    have hi := exL_lt ns i he
    obtain ⟨j, rfl⟩ : ∃ j : Nat, i = j := ⟨i.toNat, by omega⟩
    obtain ⟨n, hn⟩ : ∃ n, ns[j]? = some n := ⟨_, List.getElem?_eq_getElem (by omega)⟩
    have hq := exL_eq ns (j : Int) (by omega)
    rw [show ((j : Int)).toNat = j by omega, kidsAt_some hn] at hq
    rw [hq] at he
    have := ks_chain (ns := ns) n.kids.reverse ((j : Int) - 1) (fun x hx hxe => ks_node m x (by omega) (by omega) hxe) he
    rw [List.length_reverse] at this
    have hs := ksI_step hn
    rw [hq]
    omega
theorem ks_ord {ns : List PN} : ∀ (rs : List PR) (b : Int), -1 ≤ b → ordR ns rs b = true → ksI ns ((ns.length : Int) - 1) - ksI ns b = (ns.length : Int) - 1 - b - rs.length
  | [], b, _, h => by
    have : b = (ns.length : Int) - 1 := by simpa [ordR] using h
    subst this
    show _ = _ - ((0 : Nat) : Int); omega
  | r :: t, b, hb, h => by
    obtain ⟨h1, h2, h3, h4⟩ := ordR_cons h
    have h5 := ks_ord t r.root (by omega) h4
    have h6 := ks_node (ns := ns) (r.root.toNat + 1) r.root (by omega) h2 (by omega)
    rw [h3] at h6
    rw [List.length_cons]
    omega
/-- The size is the number of rules and the number of kids together. -/
theorem kids_rules {ns : List PN} {rs : List PR} (h : ordR ns rs (-1) = true) : rs.length + kidsN ns = ns.length := by
  have := ks_ord rs (-1) (by omega) h
  unfold ksI at this
  rw [show ((ns.length : Int) - 1 + 1).toNat = ns.length by omega, List.take_length] at this
  have h0 : kidsN (ns.take ((-1 : Int) + 1).toNat) = 0 := rfl
  rw [h0] at this
  omega
/- 3. Calls. -/
def isCall (ns : List PN) (r : Int) (i : Nat) : Bool := match ns[i]? with
  | some n => decide (n.op = 2) && decide (n.rule = r)
  | none => false
theorem isCall_at {ns : List PN} {r : Int} {i : Nat} {n : PN} (h : ns[i]? = some n) : isCall ns r i = (decide (n.op = 2) && decide (n.rule = r)) := by unfold isCall; rw [h]
theorem memb_cnt (f : Nat → Bool) : ∀ k, (memb f k).length = cnt f k
  | 0 => rfl
  | k + 1 => by
    rw [memb_succ, List.length_append, memb_cnt f k]
    show cnt f k + _ = cnt f k + (f k).toNat
    cases f k <;> rfl
theorem memb_congr {f g : Nat → Bool} {k : Nat} (h : ∀ i, i < k → f i = g i) : memb f k = memb g k := by
  unfold memb
  exact List.filter_congr (fun x hx => h x (List.mem_range.1 hx))
theorem memb_mem {f : Nat → Bool} {k j : Nat} : j ∈ memb f k ↔ j < k ∧ f j = true := by
  unfold memb; rw [List.mem_filter, List.mem_range]
theorem memb_up (f : Nat → Bool) : ∀ (k : Nat) (i j x y : Nat), i < j → (memb f k)[i]? = some x → (memb f k)[j]? = some y → x < y := by
  intro k i j x y hij hx hy
  have hs : (memb f k).Pairwise (· < ·) := by unfold memb; exact List.Pairwise.filter _ List.pairwise_lt_range
  have hi := (List.getElem?_eq_some_iff.1 hx)
  have hj := (List.getElem?_eq_some_iff.1 hy)
  obtain ⟨h1, rfl⟩ := hi
  obtain ⟨h2, rfl⟩ := hj
  exact List.pairwise_iff_getElem.1 hs i j h1 h2 hij
def callersL (ns : List PN) (r : Int) : List Nat := memb (isCall ns r) ns.length
theorem cnt_sum (g : Nat → Nat → Bool) (c : Nat → Bool) (R : Nat) : ∀ N, (∀ i, i < N → sumR (fun r => (g r i).toNat) R = (c i).toNat) → sumR (fun r => cnt (g r) N) R = cnt c N
  | 0, _ => sumR_zero R
  | N + 1, h => by
    show sumR (fun r => cnt (g r) N + (g r N).toNat) R = cnt c N + (c N).toNat
    rw [sumR_add, cnt_sum g c R N (fun i hi => h i (by omega)), h N (by omega)]
def isOp2 (ns : List PN) (i : Nat) : Bool := match ns[i]? with
  | some n => decide (n.op = 2)
  | none => false
theorem op2_cnt : ∀ (ns : List PN), cnt (isOp2 ns) ns.length = opN ns 2 := by
  intro ns
  have key : ∀ k, k ≤ ns.length → cnt (isOp2 ns) k = opN (ns.take k) 2 := by
    intro k
    induction k with
    | zero => intro _; rfl
    | succ k ih =>
      intro hk
      obtain ⟨n, hn⟩ : ∃ n, ns[k]? = some n := ⟨_, List.getElem?_eq_getElem (by omega)⟩
      rw [take_snoc' ns k n hn, opN_snoc, ← ih (by omega)]
      show cnt (isOp2 ns) k + (isOp2 ns k).toNat = _
      unfold isOp2; rw [hn]
      by_cases h : n.op = 2 <;> simp [h]
  have := key ns.length (Nat.le_refl _)
  rw [List.take_length] at this; exact this
/-- The calls of all rules are all calls. -/
theorem callers_sum {ns : List PN} {R : Nat} (h : ∀ (i : Nat) (n : PN), ns[i]? = some n → n.op = 2 → 0 ≤ n.rule ∧ n.rule < (R : Int)) : sumR (fun r => (callersL ns (r : Int)).length) R = opN ns 2 := by
  have e : sumR (fun r => (callersL ns (r : Int)).length) R = sumR (fun r => cnt (isCall ns (r : Int)) ns.length) R := sumR_congr R (fun i _ => memb_cnt _ _)
  rw [e, ← op2_cnt]
  refine cnt_sum (fun r => isCall ns (r : Int)) (isOp2 ns) R ns.length (fun i hi => ?_)
  obtain ⟨n, hn⟩ : ∃ n, ns[i]? = some n := ⟨_, List.getElem?_eq_getElem hi⟩
  have h2 : isOp2 ns i = decide (n.op = 2) := by unfold isOp2; rw [hn]
  rw [h2]
  by_cases hc : n.op = 2
  · obtain ⟨h3, h4⟩ := h i n hn hc
    have : sumR (fun r => (isCall ns (r : Int) i).toNat) R = sumR (fun r => if n.rule.toNat = r then 1 else 0) R := sumR_congr R (fun r _ => by
      rw [isCall_at hn]
      by_cases hr : n.rule = (r : Int)
      · rw [if_pos (by omega)]; simp [hc, hr]
      · rw [if_neg (by omega)]; simp [hr])
    rw [this, sumR_one, if_pos (by omega)]; simp [hc]
  · have : sumR (fun r => (isCall ns (r : Int) i).toNat) R = sumR (fun _ => 0) R := sumR_congr R (fun r _ => by rw [isCall_at hn]; simp [hc])
    rw [this, sumR_zero]; simp [hc]
/- 4. What is reached. -/
inductive Rch (E : Nat → Nat → Prop) (r0 : Nat) : Nat → Prop where
  | here : Rch E r0 r0
  | call {a b : Nat} : Rch E r0 a → E a b → Rch E r0 b
theorem Rch.trans {E : Nat → Nat → Prop} {a b c : Nat} (h : Rch E a b) (k : Rch E b c) : Rch E a c := by
  induction k with
  | here => exact h
  | call _ e ih => exact .call ih e
noncomputable def rchB (E : Nat → Nat → Prop) (r0 j : Nat) : Bool := @decide (Rch E r0 j) (Classical.propDecidable _)
theorem rchB_iff {E : Nat → Nat → Prop} {r0 j : Nat} : rchB E r0 j = true ↔ Rch E r0 j := by unfold rchB; exact @decide_eq_true_iff _ (Classical.propDecidable _)
def callE (rs : List PR) (ns : List PN) (a b : Nat) : Prop := ∃ (i : Nat) (n : PN), ns[i]? = some n ∧ n.op = 2 ∧ ownL rs (i : Int) = a ∧ n.rule = (b : Int)
noncomputable def reachL (rs : List PR) (ns : List PN) (r : Int) : List Nat := if 0 ≤ r ∧ r < rs.length then memb (rchB (callE rs ns) r.toNat) rs.length else []
theorem cnt_mono {f g : Nat → Bool} : ∀ n, (∀ i, i < n → f i = true → g i = true) → cnt f n ≤ cnt g n
  | 0, _ => Nat.le_refl _
  | n + 1, h => by
    show cnt f n + (f n).toNat ≤ cnt g n + (g n).toNat
    have h1 := cnt_mono n (fun i hi => h i (by omega))
    have h2 := h n (by omega)
    cases hf : f n with
    | false => simp; omega
    | true => rw [h2 hf]; simp; omega
theorem cnt_more {f g : Nat → Bool} : ∀ n, (∀ i, i < n → f i = true → g i = true) → (∃ j, j < n ∧ f j = false ∧ g j = true) → cnt f n < cnt g n
  | 0, _, ⟨j, hj, _⟩ => absurd hj (Nat.not_lt_zero _)
  | n + 1, h, ⟨j, hj, hf, hg⟩ => by
    show cnt f n + (f n).toNat < cnt g n + (g n).toNat
    have h2 := h n (by omega)
    by_cases e : j = n
    · subst e
      have h1 := cnt_mono j (fun i hi => h i (by omega))
      rw [hf, hg]; simp; omega
    · have h1 := cnt_more n (fun i hi => h i (by omega)) ⟨j, by omega, hf, hg⟩
      cases hf : f n with
      | false => simp; omega
      | true => rw [h2 hf]; simp; omega
theorem cnt_full {f : Nat → Bool} : ∀ n, n ≤ cnt f n → ∀ i, i < n → f i = true
  | 0, _, i, hi => absurd hi (Nat.not_lt_zero _)
  | n + 1, h, i, hi => by
    have h1 := cnt_le f n
    have hd : cnt f (n + 1) = cnt f n + (f n).toNat := rfl
    have ht : (f n).toNat ≤ 1 := by cases f n <;> decide
    by_cases e : i = n
    · subst e
      cases hf : f i with
      | true => rfl
      | false => rw [hd, hf] at h; simp at h; omega
    · exact cnt_full n (by omega) i (by omega)
/-- A set of rules that is closed, and holds nothing that is not reached, is what is reached. -/
theorem closed_rch {E : Nat → Nat → Prop} {r0 n : Nat} {m : Nat → Bool} (h0 : m r0 = true) (hc : ∀ a b, a < n → m a = true → E a b → m b = true) (hE : ∀ a b, E a b → b < n) (hr : r0 < n) : ∀ j, Rch E r0 j → m j = true ∧ j < n := by
  intro j hj
  induction hj with
  | here => exact ⟨h0, hr⟩
  | call _ e ih => exact ⟨hc _ _ ih.2 ih.1 e, hE _ _ e⟩
theorem closed_is {E : Nat → Nat → Prop} {r0 n : Nat} {m : Nat → Bool} (h0 : m r0 = true) (hc : ∀ a b, a < n → m a = true → E a b → m b = true) (hE : ∀ a b, E a b → b < n) (hr : r0 < n) (hs : ∀ j, j < n → m j = true → Rch E r0 j) : ∀ j, j < n → m j = rchB E r0 j := by
  intro j hj
  cases hm : m j with
  | true => exact (rchB_iff.2 (hs j hj hm)).symm
  | false =>
    cases hb : rchB E r0 j with
    | false => rfl
    | true => have := (closed_rch h0 hc hE hr j (rchB_iff.1 hb)).1; rw [hm] at this; cases this
/-- A round of the reference: closed before, or one more mark. -/
theorem round_more {E : Nat → Nat → Prop} {r0 n k : Nat} {m m' : Nat → Bool} (h0 : m r0 = true) (hE : ∀ a b, E a b → b < n) (hr : r0 < n) (hs : ∀ j, j < n → m' j = true → Rch E r0 j) (hle : ∀ j, j < n → m j = true → m' j = true)
    (hstep : ∀ a b, a < n → m a = true → E a b → m' b = true) (h : (∀ a b, a < n → m a = true → E a b → m b = true) ∨ k < cnt m n) :
    (∀ a b, a < n → m' a = true → E a b → m' b = true) ∨ k + 1 < cnt m' n := by
  by_cases hc : ∀ a b, a < n → m a = true → E a b → m b = true
  · left
    intro a b ha hm he
    have h1 := closed_rch h0 hc hE hr b (.call (hs a ha hm) he)
    exact hle b h1.2 h1.1
  · right
    rcases h with h | h
    · exact absurd h hc
    · have : ∃ j, j < n ∧ m j = false ∧ m' j = true := by
        apply Classical.byContradiction
        intro hn
        apply hc
        intro a b ha hm he
        cases hb : m b with
        | true => rfl
        | false => exact absurd ⟨b, hE a b he, hb, hstep a b ha hm he⟩ hn
      have := cnt_more n hle this
      omega
theorem round_all {E : Nat → Nat → Prop} {n : Nat} {m : Nat → Bool} (h : (∀ a b, a < n → m a = true → E a b → m b = true) ∨ n < cnt m n) : ∀ a b, a < n → m a = true → E a b → m b = true := by
  rcases h with h | h
  · exact h
  · have := cnt_le m n; omega
/- 5. Classes of bytes. -/
def wordN (n : PN) (k : Nat) : Int := if k = 0 then n.s0 else if k = 1 then n.s1 else if k = 2 then n.s2 else n.s3
def bitF (n : PN) (i : Nat) : Bool := (wordN n (i / 64)).toNat.testBit (i % 64)
def WordsOk (n : PN) : Prop := (0 ≤ n.s0 ∧ n.s0 ≤ 18446744073709551615) ∧ (0 ≤ n.s1 ∧ n.s1 ≤ 18446744073709551615) ∧ (0 ≤ n.s2 ∧ n.s2 ≤ 18446744073709551615) ∧ (0 ≤ n.s3 ∧ n.s3 ≤ 18446744073709551615)
theorem bitF_word {n : PN} (h : WordsOk n) : n.s0 = setW (bitF n) 0 ∧ n.s1 = setW (bitF n) 1 ∧ n.s2 = setW (bitF n) 2 ∧ n.s3 = setW (bitF n) 3 := by
  obtain ⟨⟨a, a'⟩, ⟨b, b'⟩, ⟨c, c'⟩, ⟨d, d'⟩⟩ := h
  refine ⟨setW_ext a a' fun j hj => ?_, setW_ext b b' fun j hj => ?_, setW_ext c c' fun j hj => ?_, setW_ext d d' fun j hj => ?_⟩
  · unfold bitF; rw [show (64 * 0 + j) / 64 = 0 by omega, show (64 * 0 + j) % 64 = j by omega]; rfl
  · unfold bitF; rw [show (64 * 1 + j) / 64 = 1 by omega, show (64 * 1 + j) % 64 = j by omega]; rfl
  · unfold bitF; rw [show (64 * 2 + j) / 64 = 2 by omega, show (64 * 2 + j) % 64 = j by omega]; rfl
  · unfold bitF; rw [show (64 * 3 + j) / 64 = 3 by omega, show (64 * 3 + j) % 64 = j by omega]; rfl
theorem bitF_none {n : PN} (h : n.s0 = 0 ∧ n.s1 = 0 ∧ n.s2 = 0 ∧ n.s3 = 0) (i : Nat) : bitF n i = false := by
  have : wordN n (i / 64) = 0 := by unfold wordN; rw [h.1, h.2.1, h.2.2.1, h.2.2.2]; split <;> (try rfl); split <;> (try rfl); split <;> rfl
  unfold bitF; rw [this]; simp
def anyF (ns : List PN) (i : Nat) : Bool := ns.any fun n => bitF n i
def tellB (ns : List PN) (a b : Nat) : Bool := ns.any fun n => bitF n a != bitF n b
theorem tellB_no {ns : List PN} {a b : Nat} (h : tellB ns a b = false) : ∀ n, n ∈ ns → bitF n a = bitF n b := by
  intro n hn
  unfold tellB at h
  rw [List.any_eq_false] at h
  have := h n hn
  simpa using this
/-- The classes, as they grow byte by byte: a byte begins one or is put into the last one. -/
def lastTo (l : List (Nat × Nat)) (c : Nat) : List (Nat × Nat) := match l.reverse with
  | [] => []
  | (a, _) :: t => (t.reverse) ++ [(a, c)]
theorem lastTo_snoc (l : List (Nat × Nat)) (a b c : Nat) : lastTo (l ++ [(a, b)]) c = l ++ [(a, c)] := by
  unfold lastTo; rw [List.reverse_append]; show l.reverse.reverse ++ _ = _; rw [List.reverse_reverse]
def classL (d : Nat → Bool) : Nat → List (Nat × Nat)
  | 0 => []
  | k + 1 => if d k then classL d k ++ [(k, k)] else lastTo (classL d k) k
theorem classL_some (d : Nat → Bool) (h0 : d 0 = true) : ∀ k, ∃ l a, classL d (k + 1) = l ++ [(a, k)] ∧ a ≤ k ∧ (∀ j, a < j → j ≤ k → d j = false) ∧ l.length ≤ k
  | 0 => ⟨[], 0, by show (if d 0 then _ else _) = _; rw [if_pos h0]; rfl, Nat.le_refl _, fun j h1 h2 => by omega, Nat.le_refl _⟩
  | k + 1 => by
    obtain ⟨l, a, h1, h2, h3, h4⟩ := classL_some d h0 k
    have hd : classL d (k + 1 + 1) = if d (k + 1) then classL d (k + 1) ++ [(k + 1, k + 1)] else lastTo (classL d (k + 1)) (k + 1) := rfl
    cases hk : d (k + 1) with
    | true => exact ⟨classL d (k + 1), k + 1, by rw [hd, hk]; rfl, Nat.le_refl _, fun j h1 h2 => by omega, by rw [h1, List.length_append]; simp; omega⟩
    | false =>
      refine ⟨l, a, by rw [hd, hk, h1]; exact lastTo_snoc l a k (k + 1), by omega, fun j hj1 hj2 => ?_, by omega⟩
      by_cases e : j = k + 1
      · subst e; exact hk
      · exact h3 j hj1 (by omega)
theorem classL_all (d : Nat → Bool) (h0 : d 0 = true) : ∀ k, ∀ x, x ∈ classL d k → x.1 ≤ x.2 ∧ x.2 < k ∧ ∀ j, x.1 < j → j ≤ x.2 → d j = false
  | 0, x, hx => by cases hx
  | 1, x, hx => by
    have hd : classL d 1 = [(0, 0)] := by show (if d 0 then _ else _) = _; rw [if_pos h0]; rfl
    rw [hd] at hx
    obtain rfl := List.mem_singleton.1 hx
    exact ⟨Nat.le_refl _, by omega, fun j h1 h2 => by simp at h1 h2; omega⟩
  | k + 2, x, hx => by
    obtain ⟨l, a, h1, h2, h3, h4⟩ := classL_some d h0 k
    have ih := classL_all d h0 (k + 1)
    have hd : classL d (k + 2) = if d (k + 1) then classL d (k + 1) ++ [(k + 1, k + 1)] else lastTo (classL d (k + 1)) (k + 1) := rfl
    rw [hd] at hx
    cases hk : d (k + 1) with
    | true =>
      rw [hk, if_pos rfl] at hx
      rcases List.mem_append.1 hx with hx | hx
      · have := ih x hx; exact ⟨this.1, by omega, this.2.2⟩
      · obtain rfl := List.mem_singleton.1 hx
        exact ⟨Nat.le_refl _, by simp, fun j h1 h2 => by simp at h1 h2; omega⟩
    | false =>
      rw [hk, h1] at hx
      rw [if_neg (by simp), lastTo_snoc] at hx
      rcases List.mem_append.1 hx with hx | hx
      · have := ih x (by rw [h1]; exact List.mem_append_left _ hx); exact ⟨this.1, by omega, this.2.2⟩
      · obtain rfl := List.mem_singleton.1 hx
        refine ⟨by simp; omega, by simp, fun j hj1 hj2 => ?_⟩
        simp at hj1 hj2
        by_cases e : j = k + 1
        · subst e; exact hk
        · exact h3 j hj1 (by omega)
def begB (ns : List PN) (c : Nat) : Bool := decide (c = 0) || tellB ns (c - 1) c
theorem begB_zero (ns : List PN) : begB ns 0 = true := rfl
theorem classL_same {ns : List PN} {x : Nat × Nat} (hx : x ∈ classL (begB ns) 256) : ∀ n, n ∈ ns → bitF n x.1 = bitF n x.2 := by
  intro n hn
  obtain ⟨h1, h2, h3⟩ := classL_all (begB ns) (begB_zero ns) 256 x hx
  have key : ∀ j, x.1 + j ≤ x.2 → bitF n x.1 = bitF n (x.1 + j) := by
    intro j
    induction j with
    | zero => intro _; rfl
    | succ j ih =>
      intro hj
      rw [ih (by omega)]
      have := h3 (x.1 + (j + 1)) (by omega) hj
      unfold begB at this
      rw [Bool.or_eq_false_iff] at this
      have := tellB_no this.2 n hn
      rw [show x.1 + (j + 1) - 1 = x.1 + j by omega] at this
      exact this
  have := key (x.2 - x.1) (by omega)
  rw [show x.1 + (x.2 - x.1) = x.2 by omega] at this
  exact this
/-- Where a run of f begins or has ended. -/
def edgeB (l : List (Nat × Nat)) (c : Nat) : Bool := l.any fun x => decide (x.1 = c) || decide ((x.2 + 1) % 256 = c)
theorem edgeB_snoc (l : List (Nat × Nat)) (x : Nat × Nat) (c : Nat) : edgeB (l ++ [x]) c = (edgeB l c || (decide (x.1 = c) || decide ((x.2 + 1) % 256 = c))) := by
  unfold edgeB; rw [List.any_append]; simp
theorem run_from (f : Nat → Bool) : ∀ k, f k = true → ∃ c, c ≤ k ∧ (c = 0 ∨ f (c - 1) = false) ∧ ∀ i, c ≤ i → i ≤ k → f i = true
  | 0, h => ⟨0, Nat.le_refl _, .inl rfl, fun i h1 h2 => by rw [show i = 0 by omega]; exact h⟩
  | k + 1, h => by
    cases hk : f k with
    | false => exact ⟨k + 1, Nat.le_refl _, .inr hk, fun i h1 h2 => by rw [show i = k + 1 by omega]; exact h⟩
    | true =>
      obtain ⟨c, h1, h2, h3⟩ := run_from f k hk
      refine ⟨c, by omega, h2, fun i hi hi2 => ?_⟩
      by_cases e : i = k + 1
      · rw [e]; exact h
      · exact h3 i hi (by omega)
theorem runs_edge (f : Nat → Bool) : ∀ (m k : Nat), k < m → k ≤ 256 → ∀ x, 1 ≤ x → x < 256 → edgeB (runsTo f k) x = ((decide (x < k) && f x) != (decide (x - 1 < k) && f (x - 1)))
  | 0, k, h, _, _, _, _ => absurd h (Nat.not_lt_zero _)
  | m + 1, 0, _, _, x, hx, _ => by
    rw [decide_eq_false (by omega : ¬ x < 0), decide_eq_false (by omega : ¬ x - 1 < 0)]; rfl
  | m + 1, k + 1, h, hk, x, hx, hx2 => by
    cases hf : f k with
    | false =>
      rw [runs_skip f k hf, runs_edge f m k (by omega) (by omega) x hx hx2]
      by_cases e : x = k
      · subst e; rw [hf]; simp; rw [decide_eq_true (by omega : x - 1 < x), decide_eq_true (by omega : x - 1 < x + 1)]
      · by_cases e2 : x - 1 = k
        · rw [e2, hf]; simp; rw [decide_eq_false (by omega : ¬ x < k), decide_eq_false (by omega : ¬ x < k + 1)]
        · have a : decide (x < k + 1) = decide (x < k) := by rw [decide_eq_decide]; omega
          have b : decide (x - 1 < k + 1) = decide (x - 1 < k) := by rw [decide_eq_decide]; omega
          rw [a, b]
    | true =>
      obtain ⟨c, h1, h2, h3⟩ := run_from f k hf
      obtain ⟨d, rfl⟩ : ∃ d, k = c + d := ⟨k - c, by omega⟩
      rw [runs_block f c h2 d (by omega) h3, edgeB_snoc, runs_edge f m c (by omega) (by omega) x hx hx2]
      have hT : ∀ i, c ≤ i → i ≤ c + d → f i = true := h3
      rcases Nat.lt_trichotomy x c with hl | he | hg
      · rw [decide_eq_true hl, decide_eq_true (by omega : x - 1 < c), decide_eq_true (by omega : x < c + d + 1), decide_eq_true (by omega : x - 1 < c + d + 1)]
        rw [decide_eq_false (by show ¬ c = x; omega), decide_eq_false (by show ¬ (c + d + 1) % 256 = x; omega)]
        simp
      · subst he
        have h4 : f (x - 1) = false := by rcases h2 with h2 | h2
                                          · omega
                                          · exact h2
        rw [h4, hT x (Nat.le_refl _) (by omega), decide_eq_true (by omega : x < x + d + 1)]
        simp
      · rw [decide_eq_false (by omega : ¬ x < c), decide_eq_false (by omega : ¬ x - 1 < c)]
        rw [decide_eq_false (by show ¬ c = x; omega)]
        by_cases e : x ≤ c + d
        · rw [hT x (by omega) e, hT (x - 1) (by omega) (by omega), decide_eq_true (by omega : x < c + d + 1), decide_eq_true (by omega : x - 1 < c + d + 1), decide_eq_false (by show ¬ (c + d + 1) % 256 = x; omega)]
          rfl
        · by_cases e2 : x = c + d + 1
          · subst e2
            rw [show c + d + 1 - 1 = c + d by omega, hT (c + d) (by omega) (Nat.le_refl _), decide_eq_true (by show (c + d + 1) % 256 = c + d + 1; omega)]
            simp
          · rw [decide_eq_false (by omega : ¬ x < c + d + 1), decide_eq_false (by omega : ¬ x - 1 < c + d + 1), decide_eq_false (by show ¬ (c + d + 1) % 256 = x; omega)]
            rfl
theorem runs_all_edge (f : Nat → Bool) (x : Nat) (hx : 1 ≤ x) (hx2 : x < 256) : edgeB (runsTo f 256) x = (f (x - 1) != f x) := by
  rw [runs_edge f 257 256 (by omega) (by omega) x hx hx2, decide_eq_true (by omega : x < 256), decide_eq_true (by omega : x - 1 < 256)]
  cases f x <;> cases f (x - 1) <;> rfl
/-- Which classes begin, after some nodes. -/
def begP (ns : List PN) (c : Nat) : Bool := decide (c = 0) || ns.any fun n => decide (n.op = 1) && edgeB (runsTo (bitF n) 256) c
theorem begP_snoc (ns : List PN) (n : PN) (c : Nat) : begP (ns ++ [n]) c = (begP ns c || (decide (n.op = 1) && edgeB (runsTo (bitF n) 256) c)) := by
  unfold begP; rw [List.any_append]; simp [Bool.or_assoc]
theorem begP_is {ns : List PN} (h : ∀ n, n ∈ ns → n.op ≠ 1 → n.s0 = 0 ∧ n.s1 = 0 ∧ n.s2 = 0 ∧ n.s3 = 0) (c : Nat) (hc : c < 256) : begP ns c = begB ns c := by
  unfold begP begB
  by_cases h0 : c = 0
  · simp [h0]
  · rw [decide_eq_false h0, Bool.false_or, Bool.false_or]
    unfold tellB
    induction ns with
    | nil => rfl
    | cons n t ih =>
      rw [List.any_cons, List.any_cons, ih (fun x hx => h x (by simp [hx]))]
      congr 1
      by_cases h1 : n.op = 1
      · rw [decide_eq_true h1, runs_all_edge _ c (by omega) hc]; rfl
      · rw [decide_eq_false h1, bitF_none (h n (by simp) h1), bitF_none (h n (by simp) h1)]; rfl
theorem made_kind {n : PN} {R : Nat} (h : madeB n R = true) : 0 ≤ n.op ∧ n.op ≤ 9 ∧ (n.op = 2 → 0 ≤ n.rule ∧ n.rule < R) ∧ (n.op ≠ 2 → n.rule = 0) ∧ (n.op ≠ 1 → n.s0 = 0 ∧ n.s1 = 0 ∧ n.s2 = 0 ∧ n.s3 = 0) := by
  unfold madeB at h
  simp only [Bool.and_eq_true, decide_eq_true_eq] at h
  obtain ⟨⟨⟨⟨h1, h2⟩, -⟩, h3⟩, h4⟩ := h
  refine ⟨h1, h2, fun e => ?_, fun e => ?_, fun e => ?_⟩
  · rw [if_pos e] at h3; simpa using h3
  · rw [if_neg e] at h3; simpa using h3
  · simp at h4
    rcases h4 with h4 | h4
    · exact absurd h4 e
    · exact ⟨h4.1.1.1, h4.1.1.2, h4.1.2, h4.2⟩
theorem good_node {rs : List PR} {ns : List PN} (h : ∀ i, i < ns.length → nodeBad ns rs.length i = false) {i : Nat} {n : PN} (hn : ns[i]? = some n) : madeB n rs.length = true := by
  have := h i (List.getElem?_eq_some_iff.1 hn).1
  unfold nodeBad at this
  rw [hn] at this
  simpa using this
theorem good_mem {rs : List PR} {ns : List PN} (h : ∀ i, i < ns.length → nodeBad ns rs.length i = false) {n : PN} (hn : n ∈ ns) : madeB n rs.length = true := by
  obtain ⟨i, hi, rfl⟩ := List.getElem_of_mem hn
  exact good_node h (List.getElem?_eq_getElem hi)
/-- All bytes of a grammar. -/
def byteP (ns : List PN) (c : Nat) : Bool := ns.any fun n => decide (n.op = 1) && bitF n c
theorem byteP_snoc (ns : List PN) (n : PN) (c : Nat) : byteP (ns ++ [n]) c = (byteP ns c || (decide (n.op = 1) && bitF n c)) := by
  unfold byteP; rw [List.any_append]; simp
theorem byteP_is {ns : List PN} (h : ∀ n, n ∈ ns → n.op ≠ 1 → n.s0 = 0 ∧ n.s1 = 0 ∧ n.s2 = 0 ∧ n.s3 = 0) (c : Nat) : byteP ns c = anyF ns c := by
  unfold byteP anyF
  induction ns with
  | nil => rfl
  | cons n t ih =>
    rw [List.any_cons, List.any_cons, ih (fun x hx => h x (by simp [hx]))]
    congr 1
    by_cases h1 : n.op = 1
    · rw [decide_eq_true h1]; rfl
    · rw [decide_eq_false h1, bitF_none (h n (by simp) h1)]; rfl
theorem anyF_snoc (ns : List PN) (n : PN) (c : Nat) : anyF (ns ++ [n]) c = (anyF ns c || bitF n c) := by
  unfold anyF; rw [List.any_append]; simp
end
section
open Go.RowKit
theorem Bl.set' {w : World} {b o : Nat} {t : TypeId} {cs : Array Value} (h : Bl w b t cs) (u : Value) : Bl (w.setCell ⟨b, o, none⟩ u) b t (cs.setIfInBounds o u) := heap_setCell_same w b o _ _ u h
theorem Bl.new' {w : World} {B : Nat} {t : TypeId} {cs : Array Value} (hB : B = w.heap.size) : Bl (w.alloc (.cells cs t)) B t cs := by subst hB; exact Bl.new w t cs
theorem Bl.drew {w : World} {b : Nat} {t : TypeId} {cs : Array Value} (h : Bl w b t cs) : Bl w.drew b t cs := h
theorem Bl.past {w : World} {b : Nat} {t : TypeId} {cs : Array Value} {o : Obj} (h : Bl w b t cs) : Bl (w.alloc o) b t cs := h.below (one_new w o)
theorem NAt.of_bl {f : Nat → Nat} {n B : Nat} {w : World} {t : TypeId} {cs : Array Value} (h : Bl w B t cs) (hc : ∀ j, j < n → cs[j]? = some (.int .i64 (f j : Int))) : NAt f n B w := fun j hj => ⟨h.cell (hc j hj), h.free j⟩
theorem NAt.off {f : Nat → Nat} {n b c o : Nat} {v : Value} {w : World} (h : NAt f n b w) (hc : b ≠ c) : NAt f n b (w.setCell ⟨c, o, none⟩ v) := fun j hj => by
  obtain ⟨h1, h2⟩ := h j hj
  exact ⟨by rw [World.cell?_setCell_other _ _ _ _ (by intro e; injection e with e; exact hc e.symm)]; exact h1, by rw [World.frozen?_setCell]; exact h2⟩
theorem cell_off {w : World} {b c o p : Nat} {v u : Value} (h : w.cell? ⟨b, o, none⟩ = some u) (hc : b ≠ c) : (w.setCell ⟨c, p, none⟩ v).cell? ⟨b, o, none⟩ = some u := by
  rw [World.cell?_setCell_other _ _ _ _ (by intro e; injection e with e; exact hc e.symm)]; exact h
theorem cell_one_at {w : World} {B : Nat} (hB : B = w.heap.size) (x : Value) (t : TypeId) : ∀ j u, [x][j]? = some u → (w.alloc (.cells #[x] t)).cell? ((⟨B, 0, none⟩ : Addr).add j) = some u := by
  subst hB; exact cell_one_new w x t
end
section
open Go.RowKit
def szF (R N D L : Nat) (o : Nat → Nat) : Nat → Nat := fun j => if j = 0 then R else if j = 1 then N else if j = 2 then D else if j = 3 then L else o (j - 4)
def sizesV (R N D L : Nat) (o : Nat → Nat) : Value := .agg #[.int .i64 (R : Int), .int .i64 (N : Int), .int .i64 (D : Int), .int .i64 (L : Int), .int .i64 (o 0 : Int), .int .i64 (o 1 : Int), .int .i64 (o 2 : Int), .int .i64 (o 3 : Int), .int .i64 (o 4 : Int), .int .i64 (o 5 : Int), .int .i64 (o 6 : Int), .int .i64 (o 7 : Int), .int .i64 (o 8 : Int), .int .i64 (o 9 : Int)]
theorem maxL_take (ns : List PN) (k : Nat) (hk : k < ns.length) : maxL ((depsL ns).take (k + 1)) = max (maxL ((depsL ns).take k)) (dpL ns k) := by
  have : (depsL ns)[k]? = some (dpL ns k) := by
    unfold dpL
    rw [List.getD_eq_getElem?_getD, List.getElem?_eq_getElem (by rw [depsL_length]; exact hk)]; rfl
  rw [take_snoc' _ k _ this, maxL_snoc]
theorem szF_leaf {R N D L : Nat} {o : Nat → Nat} (j : Nat) : updN (szF R N D L o) 3 (L + 1) j = szF R N D (L + 1) o j := by
  unfold updN szF
  by_cases e : j = 3
  · simp [e]
  · simp [e]
theorem szF_op {R N D L q : Nat} {o o' : Nat → Nat} (h : ∀ j, o' j = o j + (if q = j then 1 else 0)) (j : Nat) : updN (szF R N D L o) (4 + q) (o q + 1) j = szF R N D L o' j := by
  unfold updN szF
  by_cases e : j = 4 + q
  · subst e
    rw [if_pos rfl, if_neg (by omega), if_neg (by omega), if_neg (by omega), if_neg (by omega), Nat.add_sub_cancel_left, h q, if_pos rfl]
  · rw [if_neg e]
    by_cases h0 : j < 4
    · match j, h0 with
      | 0, _ | 1, _ | 2, _ | 3, _ => rfl
    · rw [if_neg (by omega), if_neg (by omega), if_neg (by omega), if_neg (by omega), if_neg (by omega), if_neg (by omega), if_neg (by omega), if_neg (by omega), h (j - 4), if_neg (by omega)]; rfl
/-- Two blocks of fourteen numbers: the sizes as they grow, and the result. -/
def St7 (w : World) (S R : Nat) (f : Nat → Nat) (wr : World) : Prop := Below w.heap.size w wr ∧ S < wr.heap.size ∧ NAt f 14 S wr ∧ NAt (fun _ => 0) 14 R wr
theorem St7.below {w : World} {S R : Nat} {f : Nat → Nat} {wr w' : World} (h : St7 w S R f wr) (hb : Below wr.heap.size wr w') (hr : R < S) : St7 w S R f w' :=
  ⟨h.1.trans (hb.mono h.1.size), Nat.lt_of_lt_of_le h.2.1 hb.size, h.2.2.1.below hb h.2.1, h.2.2.2.below hb (by have := h.2.1; omega)⟩
theorem St7.put {w : World} {S R : Nat} {f g : Nat → Nat} {wr : World} {i x : Nat} {y : Int} (h : St7 w S R f wr) (hy : y = x) (hS : w.heap.size ≤ S) (hr : R < S) (hg : ∀ j, j < 14 → updN f i x j = g j) : St7 w S R g (wr.setCell ⟨S, i, none⟩ (.int .i64 y)) :=
  ⟨h.1.setCell (p := ⟨S, i, none⟩) hS _, by simpa using h.2.1, (h.2.2.1.put' hy).congr hg, h.2.2.2.off (by omega)⟩
set_option maxHeartbeats 8000000 in
set_option maxRecDepth 100000 in
theorem mof_any (ra : Option Addr) (rc R : Nat) (nv : Value) (ns : List PN) (w : World) (hN : NodesAt w nv ns) (hs : ns.length ≤ 1000000) (hK : KidsBelow ns) (hop : ∀ n, n ∈ ns → 0 ≤ n.op ∧ n.op ≤ 9) :
    Calls Try.prog 10 #[.agg #[.slice ra R rc, nv]] w fun e w' => e = .returned (sizesV R ns.length (maxL (depsL ns)) (leafN ns) (opN ns)) ∧ Below w.heap.size w w' := by
  obtain ⟨hl, a, ca, rfl, ha⟩ := id hN
  have HD := Lib.hid (fun (W : World) (hb : Below w.heap.size w W) => depths_any ra R rc (.slice a ns.length ca) ns W (hN.kept hb (Nat.le_refl _)) hs hK)
  go_enter Try.func10, Try.ntmps10
  go_wp2_with fail
  obtain ⟨W, hW⟩ : ∃ W, (((w.alloc (Obj.cells #[Value.slice ra R rc, Value.slice a ns.length ca] 25)).alloc (Obj.cells #[Value.int IntKind.i64 0, Value.int IntKind.i64 0, Value.int IntKind.i64 0, Value.int IntKind.i64 0, Value.int IntKind.i64 0, Value.int IntKind.i64 0, Value.int IntKind.i64 0, Value.int IntKind.i64 0, Value.int IntKind.i64 0, Value.int IntKind.i64 0, Value.int IntKind.i64 0, Value.int IntKind.i64 0, Value.int IntKind.i64 0, Value.int IntKind.i64 0] 30)).alloc (Obj.cells #[Value.int IntKind.i64 (R : Int), Value.int IntKind.i64 (ns.length : Int), Value.int IntKind.i64 0, Value.int IntKind.i64 0, Value.int IntKind.i64 0, Value.int IntKind.i64 0, Value.int IntKind.i64 0, Value.int IntKind.i64 0, Value.int IntKind.i64 0, Value.int IntKind.i64 0, Value.int IntKind.i64 0, Value.int IntKind.i64 0, Value.int IntKind.i64 0, Value.int IntKind.i64 0] 30)) = W := ⟨_, rfl⟩
  have hb0 : Below w.heap.size w W := by rw [← hW]; exact (two_new w _ _).alloc (by simp; omega) _
  have hS : St7 w (w.heap.size + 2) (w.heap.size + 1) (szF R ns.length 0 0 (fun _ => 0)) W := by
    refine ⟨hb0, by rw [← hW]; simp, NAt.of_bl (t := 30) (by rw [← hW]; exact Bl.new' (by simp)) (fun j hj => ?_), NAt.of_bl (t := 30) (by rw [← hW]; exact Bl.past (Bl.new' (by simp))) (fun j hj => ?_)⟩
    · match j, hj with
      | 0, _ | 1, _ | 2, _ | 3, _ | 4, _ | 5, _ | 6, _ | 7, _ | 8, _ | 9, _ | 10, _ | 11, _ | 12, _ | 13, _ => rfl
    · match j, hj with
      | 0, _ | 1, _ | 2, _ | 3, _ | 4, _ | 5, _ | 6, _ | 7, _ | 8, _ | 9, _ | 10, _ | 11, _ | 12, _ | 13, _ => rfl
  have gB : Bl W w.heap.size 25 #[.slice ra R rc, .slice a ns.length ca] := by rw [← hW]; exact (Bl.past (Bl.past (Bl.new w _ _)))
  have g0 := gB.cell (o := 0) rfl
  have g1 := gB.cell (o := 1) rfl
  rw [hW]
  have HS := Lib.hid hS
  have hz := hS.2.1
  have HDW := Lib.hid (HD.out W hb0)
  clear hW hS hb0 gB
  go_wp2_with (go_at_call 26; (with_reducible refine HDW.out.mono ?_); rintro e w4 ⟨⟨B, cap, rfl, hB0, hB1, hnat⟩, hb⟩; have HB := Lib.hid hb; have HNAT := Lib.hid hnat; replace HS := Lib.hid (HS.out.below hb (by omega)); have e0 := (bcell hb).1 _ 0 (lt_of_cell g0); have e1 := (bcell hb).1 _ 1 (lt_of_cell g1); rw [g0] at e0; rw [g1] at e1; have hbs := hb.size; clear hb hnat g0 g1)
  go_loopw [18] (fun c wr => ∃ k : Nat, k ≤ ns.length ∧ c = .int .i64 k ∧ St7 w (w.heap.size + 2) (w.heap.size + 1) (szF R ns.length (maxL ((depsL ns).take k)) 0 (fun _ => 0)) wr ∧ NAt (dpL ns) ns.length B wr ∧ wr.cell? ⟨w.heap.size, 0, none⟩ = some (.slice ra R rc) ∧ wr.cell? ⟨w.heap.size, 1, none⟩ = some (.slice a ns.length ca)) (fun c _ => ns.length - (intOf c).toNat)
  case atStart => exact ⟨0, Nat.zero_le _, rfl, HS.out, HNAT.out, e0, e1⟩
  case round =>
    obtain ⟨k, hk, rfl, hst, hna, f0, f1⟩ := hrel
    clear e0 e1 HS HNAT
    by_cases hlt : k < ns.length
    · have k1 : (k : Int) < (ns.length : Int) := by omega
      obtain ⟨c8, z8⟩ := hna k hlt
      obtain ⟨c2, z2⟩ := hst.2.2.1 2 (by omega)
      have e2 : szF R ns.length (maxL ((depsL ns).take k)) 0 (fun _ => 0) 2 = maxL ((depsL ns).take k) := rfl
      rw [e2] at c2
      have HST := Lib.hid hst
      have HNA := Lib.hid hna
      have HM := Lib.hid (maxL_take ns k hlt)
      clear hst hna e2
      go_wp2
      refine ⟨⟨k + 1, by omega, by go_num, ?_, HNA.out.off (by omega), cell_off f0 (by omega), cell_off f1 (by omega)⟩, by simp [intOf]; omega⟩
      refine HST.out.put (x := maxL ((depsL ns).take (k + 1))) (by rw [HM.out]; omega) (by omega) (by omega) (fun j _ => ?_)
      unfold updN szF
      by_cases e : j = 2
      · simp [e]
      · simp [e]
    · obtain rfl : k = ns.length := by omega
      have k1 : ¬ (ns.length : Int) < (ns.length : Int) := by omega
      have eT : (depsL ns).take ns.length = depsL ns := by rw [← depsL_length ns, List.take_length]
      rw [eT] at hst
      generalize hDe : maxL (depsL ns) = D at *
      have HDE := Lib.hid hDe
      have HST := Lib.hid hst
      clear hst hna eT hlt HB hbs hDe
      go_wp2
      go_loopw [31] (fun c wq => ∃ k : Nat, k ≤ ns.length ∧ c = .int .i64 k ∧ St7 w (w.heap.size + 2) (w.heap.size + 1) (szF R ns.length D (leafN (ns.take k)) (opN (ns.take k))) wq) (fun c _ => ns.length - (intOf c).toNat)
      case atStart => exact ⟨0, Nat.zero_le _, rfl, HST.out⟩
      case round =>
        obtain ⟨k, hk, rfl, hst⟩ := hrel
        clear HST
        by_cases hlt : k < ns.length
        · have k1 : (k : Int) < (ns.length : Int) := by omega
          obtain ⟨n, hn⟩ : ∃ n, ns[k]? = some n := ⟨_, List.getElem?_eq_getElem hlt⟩
          rcases ha with h0 | ⟨nb, no, rfl, hca⟩
          · rw [h0] at hlt; exact absurd hlt (Nat.not_lt_zero _)
          obtain ⟨kv, c0, c1, c2, c3, c4, c5, c6, ci, cl⟩ := (hca k n hn).kept hst.1 (Nat.le_refl _)
          obtain ⟨ka, kc, rfl, -⟩ := ci
          obtain ⟨o1, o2⟩ := hop n (List.mem_of_getElem? hn)
          obtain ⟨q, hq⟩ : ∃ q : Nat, n.op = q := ⟨n.op.toNat, by omega⟩
          rw [hq] at c0
          obtain ⟨d3, z3⟩ := hst.2.2.1 3 (by omega)
          obtain ⟨d4, z4⟩ := hst.2.2.1 (4 + q) (by omega)
          have e3 : szF R ns.length D (leafN (ns.take k)) (opN (ns.take k)) 3 = leafN (ns.take k) := rfl
          have e4 : szF R ns.length D (leafN (ns.take k)) (opN (ns.take k)) (4 + q) = opN (ns.take k) q := by
            unfold szF; rw [if_neg (by omega), if_neg (by omega), if_neg (by omega), if_neg (by omega), Nat.add_sub_cancel_left]
          rw [e3] at d3
          rw [e4] at d4
          have HL := Lib.hid (leafN_take hn)
          have HO := Lib.hid (opN_take hn hq)
          have l1 := leafN_le (ns.take k)
          have l2 := opN_le (ns.take k) q
          rw [List.length_take] at l1 l2
          have HST := Lib.hid hst
          have hz2 : w.heap.size + 1 + 1 < wr.heap.size := hst.2.1
          have q1 : (0 : Int) ≤ (q : Int) := by omega
          have q2 : (q : Int) < 10 := by omega
          unfold maxLen at cl
          clear hst e3 e4 hca hn hq o1 o2 hop HD HDW hN
          generalize leafN (ns.take k) = L at *
          generalize opN (ns.take k) = O at *
          have w1 : IntKind.i64.wrap ((L : Int) + 1) = (L : Int) + 1 := IntWalk.i64_in _ (by omega)
          have w2 : IntKind.i64.wrap ((O q : Int) + 1) = (O q : Int) + 1 := IntWalk.i64_in _ (by omega)
          clear l1 l2
          by_cases hk0 : n.kids.length = 0
          · rw [hk0] at c1
            go_wp2
            refine ⟨⟨k + 1, by omega, by go_num, ?_⟩, by simp [intOf]; omega⟩
            refine ((HST.out.put (g := szF R ns.length D (L + 1) O) (x := L + 1) (by omega) (by omega) (by omega) (fun j _ => ?_)).put (x := O q + 1) (by omega) (by omega) (by omega) (fun j _ => ?_)).below (one_new _ _) (by omega)
            · exact szF_leaf j
            · rw [HL.out, if_pos hk0]; exact szF_op HO.out j
          · have hk1 : ((n.kids.length : Int) == 0) = false := by rw [beq_eq_false_iff_ne]; omega
            go_wp2
            refine ⟨⟨k + 1, by omega, by go_num, ?_⟩, by simp [intOf]; omega⟩
            refine (HST.out.put (x := O q + 1) (by omega) (by omega) (by omega) (fun j _ => ?_)).below (one_new _ _) (by omega)
            rw [HL.out, if_neg hk0]; exact szF_op HO.out j
        · obtain rfl : k = ns.length := by omega
          have k1 : ¬ (ns.length : Int) < (ns.length : Int) := by omega
          rw [List.take_length] at hst
          have HST := Lib.hid hst
          have x := fun j (hj : j < 14) => (hst.2.2.1 j hj).1
          have r := fun j (hj : j < 14) => (hst.2.2.2 j hj)
          have x0 := x 0 (by omega)
          have x1 := x 1 (by omega)
          have x2 := x 2 (by omega)
          have x3 := x 3 (by omega)
          have x4 := x 4 (by omega)
          have x5 := x 5 (by omega)
          have x6 := x 6 (by omega)
          have x7 := x 7 (by omega)
          have x8 := x 8 (by omega)
          have x9 := x 9 (by omega)
          have x10 := x 10 (by omega)
          have x11 := x 11 (by omega)
          have x12 := x 12 (by omega)
          have x13 := x 13 (by omega)
          obtain ⟨y0, r0⟩ := r 0 (by omega)
          obtain ⟨y1, r1⟩ := r 1 (by omega)
          obtain ⟨y2, r2⟩ := r 2 (by omega)
          obtain ⟨y3, r3⟩ := r 3 (by omega)
          obtain ⟨y4, r4⟩ := r 4 (by omega)
          obtain ⟨y5, r5⟩ := r 5 (by omega)
          obtain ⟨y6, r6⟩ := r 6 (by omega)
          obtain ⟨y7, r7⟩ := r 7 (by omega)
          obtain ⟨y8, r8⟩ := r 8 (by omega)
          obtain ⟨y9, r9⟩ := r 9 (by omega)
          obtain ⟨y10, r10⟩ := r 10 (by omega)
          obtain ⟨y11, r11⟩ := r 11 (by omega)
          obtain ⟨y12, r12⟩ := r 12 (by omega)
          obtain ⟨y13, r13⟩ := r 13 (by omega)
          simp only [szF] at x0 x1 x2 x3 x4 x5 x6 x7 x8 x9 x10 x11 x12 x13
          simp at x0 x1 x2 x3 x4 x5 x6 x7 x8 x9 x10 x11 x12 x13
          clear hst x r hop HD HDW hN ha
          generalize hLe : leafN ns = L at *
          generalize hOe : opN ns = O at *
          have HLE := Lib.hid hLe
          have HOE := Lib.hid hOe
          clear hLe hOe
          go_wp2
          have hb := HST.out.1
          have q := HST.out.2.2.2
          replace hb := hb.setCell (p := ⟨w.heap.size + 1, 0, none⟩) (by show _ ≤ w.heap.size + 1; omega) (.int .i64 (R : Int))
          replace q := q.put' (i := 0) (y := (R : Int)) rfl
          replace hb := hb.setCell (p := ⟨w.heap.size + 1, 1, none⟩) (by show _ ≤ w.heap.size + 1; omega) (.int .i64 (ns.length : Int))
          replace q := q.put' (i := 1) (y := (ns.length : Int)) rfl
          replace hb := hb.setCell (p := ⟨w.heap.size + 1, 2, none⟩) (by show _ ≤ w.heap.size + 1; omega) (.int .i64 (D : Int))
          replace q := q.put' (i := 2) (y := (D : Int)) rfl
          replace hb := hb.setCell (p := ⟨w.heap.size + 1, 3, none⟩) (by show _ ≤ w.heap.size + 1; omega) (.int .i64 (L : Int))
          replace q := q.put' (i := 3) (y := (L : Int)) rfl
          replace hb := hb.setCell (p := ⟨w.heap.size + 1, 4, none⟩) (by show _ ≤ w.heap.size + 1; omega) (.int .i64 (O 0 : Int))
          replace q := q.put' (i := 4) (y := (O 0 : Int)) rfl
          replace hb := hb.setCell (p := ⟨w.heap.size + 1, 5, none⟩) (by show _ ≤ w.heap.size + 1; omega) (.int .i64 (O 1 : Int))
          replace q := q.put' (i := 5) (y := (O 1 : Int)) rfl
          replace hb := hb.setCell (p := ⟨w.heap.size + 1, 6, none⟩) (by show _ ≤ w.heap.size + 1; omega) (.int .i64 (O 2 : Int))
          replace q := q.put' (i := 6) (y := (O 2 : Int)) rfl
          replace hb := hb.setCell (p := ⟨w.heap.size + 1, 7, none⟩) (by show _ ≤ w.heap.size + 1; omega) (.int .i64 (O 3 : Int))
          replace q := q.put' (i := 7) (y := (O 3 : Int)) rfl
          replace hb := hb.setCell (p := ⟨w.heap.size + 1, 8, none⟩) (by show _ ≤ w.heap.size + 1; omega) (.int .i64 (O 4 : Int))
          replace q := q.put' (i := 8) (y := (O 4 : Int)) rfl
          replace hb := hb.setCell (p := ⟨w.heap.size + 1, 9, none⟩) (by show _ ≤ w.heap.size + 1; omega) (.int .i64 (O 5 : Int))
          replace q := q.put' (i := 9) (y := (O 5 : Int)) rfl
          replace hb := hb.setCell (p := ⟨w.heap.size + 1, 10, none⟩) (by show _ ≤ w.heap.size + 1; omega) (.int .i64 (O 6 : Int))
          replace q := q.put' (i := 10) (y := (O 6 : Int)) rfl
          replace hb := hb.setCell (p := ⟨w.heap.size + 1, 11, none⟩) (by show _ ≤ w.heap.size + 1; omega) (.int .i64 (O 7 : Int))
          replace q := q.put' (i := 11) (y := (O 7 : Int)) rfl
          replace hb := hb.setCell (p := ⟨w.heap.size + 1, 12, none⟩) (by show _ ≤ w.heap.size + 1; omega) (.int .i64 (O 8 : Int))
          replace q := q.put' (i := 12) (y := (O 8 : Int)) rfl
          replace hb := hb.setCell (p := ⟨w.heap.size + 1, 13, none⟩) (by show _ ≤ w.heap.size + 1; omega) (.int .i64 (O 9 : Int))
          replace q := q.put' (i := 13) (y := (O 9 : Int)) rfl
          have z0 : _ = some (Value.int .i64 (R : Int)) := (q 0 (by omega)).1
          have z1 : _ = some (Value.int .i64 (ns.length : Int)) := (q 1 (by omega)).1
          have z2 : _ = some (Value.int .i64 (D : Int)) := (q 2 (by omega)).1
          have z3 : _ = some (Value.int .i64 (L : Int)) := (q 3 (by omega)).1
          have z4 : _ = some (Value.int .i64 (O 0 : Int)) := (q 4 (by omega)).1
          have z5 : _ = some (Value.int .i64 (O 1 : Int)) := (q 5 (by omega)).1
          have z6 : _ = some (Value.int .i64 (O 2 : Int)) := (q 6 (by omega)).1
          have z7 : _ = some (Value.int .i64 (O 3 : Int)) := (q 7 (by omega)).1
          have z8 : _ = some (Value.int .i64 (O 4 : Int)) := (q 8 (by omega)).1
          have z9 : _ = some (Value.int .i64 (O 5 : Int)) := (q 9 (by omega)).1
          have z10 : _ = some (Value.int .i64 (O 6 : Int)) := (q 10 (by omega)).1
          have z11 : _ = some (Value.int .i64 (O 7 : Int)) := (q 11 (by omega)).1
          have z12 : _ = some (Value.int .i64 (O 8 : Int)) := (q 12 (by omega)).1
          have z13 : _ = some (Value.int .i64 (O 9 : Int)) := (q 13 (by omega)).1
          exact bodyPost_ret (v := sizesV R ns.length D L O) (by simp [results, Try.results10, go_sem, sizesV, z0, z1, z2, z3, z4, z5, z6, z7, z8, z9, z10, z11, z12, z13]) rfl ⟨by rw [HDE.out, HLE.out, HOE.out], hb⟩
end
section
open Go.RowKit
theorem St7.lo {w : World} {S R : Nat} {f : Nat → Nat} {wr : World} (h : St7 w S R f wr) : Below w.heap.size w wr := h.1
theorem szF_dep {R N D D' L : Nat} {o : Nat → Nat} (j : Nat) : updN (szF R N D L o) 2 D' j = szF R N D' L o j := by
  unfold updN szF
  by_cases e : j = 2
  · simp [e]
  · simp [e]
theorem St7.drew {w : World} {S R : Nat} {f : Nat → Nat} {wr : World} (h : St7 w S R f wr) : St7 w S R f wr.drew := ⟨h.1.drew, h.2.1, h.2.2.1, h.2.2.2⟩
set_option maxHeartbeats 8000000 in
set_option maxRecDepth 100000 in
theorem r7of_any (ra : Option Addr) (rc R : Nat) (nv : Value) (ns : List PN) (w : World) (hN : NodesAt w nv ns) (hs : ns.length ≤ 1000000) (hK : KidsBelow ns) (hop : ∀ n, n ∈ ns → 0 ≤ n.op ∧ n.op ≤ 9) (hdp : ∀ i, i < ns.length → dpL ns i ≤ 200) :
    Calls Try.prog 11 #[.agg #[.slice ra R rc, nv]] w fun e w' => e = .returned (sizesV R ns.length (maxL (depsL ns)) (leafN ns) (opN ns)) ∧ Below w.heap.size w w' := by
  obtain ⟨hl, a, ca, rfl, ha⟩ := id hN
  have HD := Lib.hid (fun (W : World) (hb : Below w.heap.size w W) (j : Nat) (hj : j < ns.length) => depth_nat ra a R rc ns.length ca ns hs hK 205 j 205 W rfl (by omega) hj (hN.kept hb (Nat.le_refl _)))
  have HE := Lib.hid (fun (j : Nat) (hj : j < ns.length) => show rdF ns 205 (j : Int) = dpL ns j by
    have h1 := rdF_is hK 205 (j : Int) (by omega) (by omega)
    rw [show (j : Int).toNat = j by omega] at h1
    have := hdp j hj
    omega)
  go_enter Try.func11, Try.ntmps11
  go_upto_region 3 with fail
  obtain ⟨W, hW⟩ : ∃ W, (((w.alloc (Obj.cells #[Value.slice ra R rc, Value.slice a ns.length ca] 25)).alloc (Obj.cells #[Value.int IntKind.i64 0, Value.int IntKind.i64 0, Value.int IntKind.i64 0, Value.int IntKind.i64 0, Value.int IntKind.i64 0, Value.int IntKind.i64 0, Value.int IntKind.i64 0, Value.int IntKind.i64 0, Value.int IntKind.i64 0, Value.int IntKind.i64 0, Value.int IntKind.i64 0, Value.int IntKind.i64 0, Value.int IntKind.i64 0, Value.int IntKind.i64 0] 38)).alloc (Obj.cells #[Value.int IntKind.i64 (R : Int), Value.int IntKind.i64 (ns.length : Int), Value.int IntKind.i64 0, Value.int IntKind.i64 0, Value.int IntKind.i64 0, Value.int IntKind.i64 0, Value.int IntKind.i64 0, Value.int IntKind.i64 0, Value.int IntKind.i64 0, Value.int IntKind.i64 0, Value.int IntKind.i64 0, Value.int IntKind.i64 0, Value.int IntKind.i64 0, Value.int IntKind.i64 0] 38)) = W := ⟨_, rfl⟩
  have hb0 : Below w.heap.size w W := by rw [← hW]; exact (two_new w _ _).alloc (by simp; omega) _
  have hS : St7 w (w.heap.size + 2) (w.heap.size + 1) (szF R ns.length 0 0 (fun _ => 0)) W := by
    refine ⟨hb0, by rw [← hW]; simp, NAt.of_bl (t := 38) (by rw [← hW]; exact Bl.new' (by simp)) (fun j hj => ?_), NAt.of_bl (t := 38) (by rw [← hW]; exact Bl.past (Bl.new' (by simp))) (fun j hj => ?_)⟩
    · match j, hj with
      | 0, _ | 1, _ | 2, _ | 3, _ | 4, _ | 5, _ | 6, _ | 7, _ | 8, _ | 9, _ | 10, _ | 11, _ | 12, _ | 13, _ => rfl
    · match j, hj with
      | 0, _ | 1, _ | 2, _ | 3, _ | 4, _ | 5, _ | 6, _ | 7, _ | 8, _ | 9, _ | 10, _ | 11, _ | 12, _ | 13, _ => rfl
  have gB : Bl W w.heap.size 25 #[.slice ra R rc, .slice a ns.length ca] := by rw [← hW]; exact (Bl.past (Bl.past (Bl.new w _ _)))
  have g0 := gB.cell (o := 0) rfl
  have g1 := gB.cell (o := 1) rfl
  rw [hW]
  have HS := Lib.hid hS
  have hz := hS.2.1
  clear hW hS hb0 gB
  go_wp2
  go_loopw [4] (fun c wr => ∃ k : Nat, k ≤ ns.length ∧ c = .int .i64 k ∧ St7 w (w.heap.size + 2) (w.heap.size + 1) (szF R ns.length (maxL ((depsL ns).take k)) (leafN (ns.take k)) (opN (ns.take k))) wr ∧ wr.cell? ⟨w.heap.size, 0, none⟩ = some (.slice ra R rc) ∧ wr.cell? ⟨w.heap.size, 1, none⟩ = some (.slice a ns.length ca)) (fun c _ => ns.length - (intOf c).toNat)
  case atStart => exact ⟨0, Nat.zero_le _, rfl, HS.out, g0, g1⟩
  case round =>
    obtain ⟨k, hk, rfl, hst, f0, f1⟩ := hrel
    clear HS g0 g1
    by_cases hlt : k < ns.length
    · have k1 : (k : Int) < (ns.length : Int) := by omega
      obtain ⟨n, hn⟩ : ∃ n, ns[k]? = some n := ⟨_, List.getElem?_eq_getElem hlt⟩
      rcases ha with h0 | ⟨nb, no, rfl, hca⟩
      · rw [h0] at hlt; exact absurd hlt (Nat.not_lt_zero _)
      have hNk := (hca k n hn)
      obtain ⟨kv, c0, c1, -, -, -, -, -, ci, cl⟩ := id hNk
      obtain ⟨ka, kc, rfl, -⟩ := ci
      obtain ⟨o1, o2⟩ := hop n (List.mem_of_getElem? hn)
      obtain ⟨q, hq⟩ : ∃ q : Nat, n.op = q := ⟨n.op.toNat, by omega⟩
      rw [hq] at c0
      have lb := lt_of_cell c0
      have q1 : (0 : Int) ≤ (q : Int) := by omega
      have q2 : (q : Int) < 10 := by omega
      have HC0 := Lib.hid (fun (W : World) (hb : Below w.heap.size w W) => (show W.cell? ⟨nb, no + k * 7, none⟩ = some (.int .i64 (q : Int)) by rw [(bcell hb).1 _ _ (lt_of_cell c0)]; exact c0))
      have HC1 := Lib.hid (fun (W : World) (hb : Below w.heap.size w W) => (show W.cell? ⟨nb, no + k * 7 + 1, none⟩ = some (.slice ka n.kids.length kc) by rw [(bcell hb).1 _ _ (lt_of_cell c1)]; exact c1))
      have HL := Lib.hid (leafN_take hn)
      have HO := Lib.hid (opN_take hn hq)
      have HM := Lib.hid (maxL_take ns k hlt)
      have HDK := Lib.hid (fun (W : World) (hb : Below w.heap.size w W) => HD.out W hb k hlt)
      rw [HE.out k hlt] at HDK
      have l1 := leafN_le (ns.take k)
      have l2 := opN_le (ns.take k) q
      rw [List.length_take] at l1 l2
      have ld := hdp k hlt
      obtain ⟨d2, z2⟩ := hst.2.2.1 2 (by omega)
      have e2 : szF R ns.length (maxL ((depsL ns).take k)) (leafN (ns.take k)) (opN (ns.take k)) 2 = maxL ((depsL ns).take k) := rfl
      rw [e2] at d2
      have hz2 : w.heap.size + 1 + 1 < wr.heap.size := hst.2.1
      have HST := Lib.hid hst
      unfold maxLen at cl
      clear hst e2 hca hn hq o1 o2 hop HD hN c0 c1 hNk hdp HE ld
      generalize leafN (ns.take k) = L at *
      generalize opN (ns.take k) = O at *
      generalize maxL ((depsL ns).take k) = M at *
      generalize dpL ns k = Dk at *
      go_wp2
      go_region_with (go_at_call 27; (with_reducible refine (HDK.out _ (HST.out.lo.drew)).mono ?_); rintro ev w3 ⟨rfl, hb⟩; have HS3 := Lib.hid (St7.below (St7.drew HST.out) hb (by omega)); have d2' : w3.cell? ⟨w.heap.size + 2, 2, none⟩ = some (Value.int .i64 (M : Int)) := (HS3.out.2.2.1 2 (by omega)).1; have z2' := (HS3.out.2.2.1 2 (by omega)).2; have f0' := (bcell hb).1 _ 0 (lt_of_cell f0); have f1' := (bcell hb).1 _ 1 (lt_of_cell f1); simp only [World.cell?_drew] at f0' f1'; rw [f0] at f0'; rw [f1] at f1'; have hz3 : w.heap.size + 1 + 1 < w3.heap.size := HS3.out.2.1; clear hb)
      all_goals
        obtain ⟨W4, hW4⟩ : ∃ W4, w3.setCell ⟨w.heap.size + 1 + 1, 2, none⟩ (.int .i64 (max (M : Int) (Dk : Int))) = W4 := ⟨_, rfl⟩
        have hs4 : St7 w (w.heap.size + 2) (w.heap.size + 1) (szF R ns.length (max M Dk) L O) W4 := by
          rw [← hW4]
          exact HS3.out.put (i := 2) (x := max M Dk) (by omega) (by omega) (by omega) (fun j _ => szF_dep j)
        have g0 : W4.cell? ⟨w.heap.size, 0, none⟩ = some (.slice ra R rc) := by rw [← hW4]; exact cell_off f0' (by omega)
        have g1 : W4.cell? ⟨w.heap.size, 1, none⟩ = some (.slice (some ⟨nb, no, none⟩) ns.length ca) := by rw [← hW4]; exact cell_off f1' (by omega)
        rw [hW4]
        have c0 := HC0.out _ hs4.lo
        have c1 := HC1.out _ hs4.lo
        have d3 : W4.cell? ⟨w.heap.size + 2, 3, none⟩ = some (Value.int .i64 (L : Int)) := (hs4.2.2.1 3 (by omega)).1
        have z3 := (hs4.2.2.1 3 (by omega)).2
        obtain ⟨d4, z4⟩ := hs4.2.2.1 (4 + q) (by omega)
        have e4 : szF R ns.length (max M Dk) L O (4 + q) = O q := by
          unfold szF; rw [if_neg (by omega), if_neg (by omega), if_neg (by omega), if_neg (by omega), Nat.add_sub_cancel_left]
        rw [e4] at d4
        have HS4 := Lib.hid hs4
        have w1 : IntKind.i64.wrap ((L : Int) + 1) = (L : Int) + 1 := IntWalk.i64_in _ (by omega)
        have w2 : IntKind.i64.wrap ((O q : Int) + 1) = (O q : Int) + 1 := IntWalk.i64_in _ (by omega)
        clear hW4 hs4 e4 HS3 f0 f1 f0' f1' d2 d2' z2 z2' HC0 HC1 HDK HST l1 l2
        by_cases hk0 : n.kids.length = 0
        · rw [hk0] at c1
          go_wp2
          refine ⟨⟨k + 1, by omega, by go_num, ?_, cell_off (cell_off g0 (by omega)) (by omega), cell_off (cell_off g1 (by omega)) (by omega)⟩, by simp [intOf]; omega⟩
          rw [HM.out, HL.out, if_pos hk0]
          exact (HS4.out.put (g := szF R ns.length (max M Dk) L (opN (ns.take (k + 1)))) (x := O q + 1) (by omega) (by omega) (by omega) (fun j _ => szF_op HO.out j)).put (x := L + 1) (by omega) (by omega) (by omega) (fun j _ => szF_leaf j)
        · have hk1 : ((n.kids.length : Int) == 0) = false := by rw [beq_eq_false_iff_ne]; omega
          go_wp2
          refine ⟨⟨k + 1, by omega, by go_num, ?_, cell_off g0 (by omega), cell_off g1 (by omega)⟩, by simp [intOf]; omega⟩
          rw [HM.out, HL.out, if_neg hk0]
          exact (HS4.out.put (x := O q + 1) (by omega) (by omega) (by omega) (fun j _ => szF_op HO.out j))
    · obtain rfl : k = ns.length := by omega
      have k1 : ¬ (ns.length : Int) < (ns.length : Int) := by omega
      have eT : (depsL ns).take ns.length = depsL ns := by rw [← depsL_length ns, List.take_length]
      rw [List.take_length, eT] at hst
      generalize hDe : maxL (depsL ns) = D at *
      have HDE := Lib.hid hDe
      have HST := Lib.hid hst
      have x := fun j (hj : j < 14) => (hst.2.2.1 j hj).1
      have r := fun j (hj : j < 14) => (hst.2.2.2 j hj)
      have x0 := x 0 (by omega)
      have x1 := x 1 (by omega)
      have x2 := x 2 (by omega)
      have x3 := x 3 (by omega)
      have x4 := x 4 (by omega)
      have x5 := x 5 (by omega)
      have x6 := x 6 (by omega)
      have x7 := x 7 (by omega)
      have x8 := x 8 (by omega)
      have x9 := x 9 (by omega)
      have x10 := x 10 (by omega)
      have x11 := x 11 (by omega)
      have x12 := x 12 (by omega)
      have x13 := x 13 (by omega)
      obtain ⟨y0, r0⟩ := r 0 (by omega)
      obtain ⟨y1, r1⟩ := r 1 (by omega)
      obtain ⟨y2, r2⟩ := r 2 (by omega)
      obtain ⟨y3, r3⟩ := r 3 (by omega)
      obtain ⟨y4, r4⟩ := r 4 (by omega)
      obtain ⟨y5, r5⟩ := r 5 (by omega)
      obtain ⟨y6, r6⟩ := r 6 (by omega)
      obtain ⟨y7, r7⟩ := r 7 (by omega)
      obtain ⟨y8, r8⟩ := r 8 (by omega)
      obtain ⟨y9, r9⟩ := r 9 (by omega)
      obtain ⟨y10, r10⟩ := r 10 (by omega)
      obtain ⟨y11, r11⟩ := r 11 (by omega)
      obtain ⟨y12, r12⟩ := r 12 (by omega)
      obtain ⟨y13, r13⟩ := r 13 (by omega)
      simp only [szF] at x0 x1 x2 x3 x4 x5 x6 x7 x8 x9 x10 x11 x12 x13
      simp at x0 x1 x2 x3 x4 x5 x6 x7 x8 x9 x10 x11 x12 x13
      clear hst x r hop HD hN ha hDe eT
      generalize hLe : leafN ns = L at *
      generalize hOe : opN ns = O at *
      have HLE := Lib.hid hLe
      have HOE := Lib.hid hOe
      clear hLe hOe
      go_wp2
      have hb := HST.out.1
      have q := HST.out.2.2.2
      replace hb := hb.setCell (p := ⟨w.heap.size + 1, 0, none⟩) (by show _ ≤ w.heap.size + 1; omega) (.int .i64 (R : Int))
      replace q := q.put' (i := 0) (y := (R : Int)) rfl
      replace hb := hb.setCell (p := ⟨w.heap.size + 1, 1, none⟩) (by show _ ≤ w.heap.size + 1; omega) (.int .i64 (ns.length : Int))
      replace q := q.put' (i := 1) (y := (ns.length : Int)) rfl
      replace hb := hb.setCell (p := ⟨w.heap.size + 1, 2, none⟩) (by show _ ≤ w.heap.size + 1; omega) (.int .i64 (D : Int))
      replace q := q.put' (i := 2) (y := (D : Int)) rfl
      replace hb := hb.setCell (p := ⟨w.heap.size + 1, 3, none⟩) (by show _ ≤ w.heap.size + 1; omega) (.int .i64 (L : Int))
      replace q := q.put' (i := 3) (y := (L : Int)) rfl
      replace hb := hb.setCell (p := ⟨w.heap.size + 1, 4, none⟩) (by show _ ≤ w.heap.size + 1; omega) (.int .i64 (O 0 : Int))
      replace q := q.put' (i := 4) (y := (O 0 : Int)) rfl
      replace hb := hb.setCell (p := ⟨w.heap.size + 1, 5, none⟩) (by show _ ≤ w.heap.size + 1; omega) (.int .i64 (O 1 : Int))
      replace q := q.put' (i := 5) (y := (O 1 : Int)) rfl
      replace hb := hb.setCell (p := ⟨w.heap.size + 1, 6, none⟩) (by show _ ≤ w.heap.size + 1; omega) (.int .i64 (O 2 : Int))
      replace q := q.put' (i := 6) (y := (O 2 : Int)) rfl
      replace hb := hb.setCell (p := ⟨w.heap.size + 1, 7, none⟩) (by show _ ≤ w.heap.size + 1; omega) (.int .i64 (O 3 : Int))
      replace q := q.put' (i := 7) (y := (O 3 : Int)) rfl
      replace hb := hb.setCell (p := ⟨w.heap.size + 1, 8, none⟩) (by show _ ≤ w.heap.size + 1; omega) (.int .i64 (O 4 : Int))
      replace q := q.put' (i := 8) (y := (O 4 : Int)) rfl
      replace hb := hb.setCell (p := ⟨w.heap.size + 1, 9, none⟩) (by show _ ≤ w.heap.size + 1; omega) (.int .i64 (O 5 : Int))
      replace q := q.put' (i := 9) (y := (O 5 : Int)) rfl
      replace hb := hb.setCell (p := ⟨w.heap.size + 1, 10, none⟩) (by show _ ≤ w.heap.size + 1; omega) (.int .i64 (O 6 : Int))
      replace q := q.put' (i := 10) (y := (O 6 : Int)) rfl
      replace hb := hb.setCell (p := ⟨w.heap.size + 1, 11, none⟩) (by show _ ≤ w.heap.size + 1; omega) (.int .i64 (O 7 : Int))
      replace q := q.put' (i := 11) (y := (O 7 : Int)) rfl
      replace hb := hb.setCell (p := ⟨w.heap.size + 1, 12, none⟩) (by show _ ≤ w.heap.size + 1; omega) (.int .i64 (O 8 : Int))
      replace q := q.put' (i := 12) (y := (O 8 : Int)) rfl
      replace hb := hb.setCell (p := ⟨w.heap.size + 1, 13, none⟩) (by show _ ≤ w.heap.size + 1; omega) (.int .i64 (O 9 : Int))
      replace q := q.put' (i := 13) (y := (O 9 : Int)) rfl
      have z0 : _ = some (Value.int .i64 (R : Int)) := (q 0 (by omega)).1
      have z1 : _ = some (Value.int .i64 (ns.length : Int)) := (q 1 (by omega)).1
      have z2 : _ = some (Value.int .i64 (D : Int)) := (q 2 (by omega)).1
      have z3 : _ = some (Value.int .i64 (L : Int)) := (q 3 (by omega)).1
      have z4 : _ = some (Value.int .i64 (O 0 : Int)) := (q 4 (by omega)).1
      have z5 : _ = some (Value.int .i64 (O 1 : Int)) := (q 5 (by omega)).1
      have z6 : _ = some (Value.int .i64 (O 2 : Int)) := (q 6 (by omega)).1
      have z7 : _ = some (Value.int .i64 (O 3 : Int)) := (q 7 (by omega)).1
      have z8 : _ = some (Value.int .i64 (O 4 : Int)) := (q 8 (by omega)).1
      have z9 : _ = some (Value.int .i64 (O 5 : Int)) := (q 9 (by omega)).1
      have z10 : _ = some (Value.int .i64 (O 6 : Int)) := (q 10 (by omega)).1
      have z11 : _ = some (Value.int .i64 (O 7 : Int)) := (q 11 (by omega)).1
      have z12 : _ = some (Value.int .i64 (O 8 : Int)) := (q 12 (by omega)).1
      have z13 : _ = some (Value.int .i64 (O 9 : Int)) := (q 13 (by omega)).1
      exact bodyPost_ret (v := sizesV R ns.length D L O) (by simp [results, Try.results11, go_sem, sizesV, z0, z1, z2, z3, z4, z5, z6, z7, z8, z9, z10, z11, z12, z13]) rfl ⟨by rw [HDE.out, HLE.out, HOE.out], hb⟩
end
end Go.Proofs.Ytklimoepkifnhaa
