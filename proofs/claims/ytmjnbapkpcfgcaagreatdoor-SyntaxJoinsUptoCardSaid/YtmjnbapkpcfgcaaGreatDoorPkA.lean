/- Characters of grammar files as plain functions on lists of bytes: what a backslash and what follows it stand for. No walk, no program. Quoted strings as plain functions on lists of bytes: what the program does, what the reference does, and that they agree. No walk. Tokens of grammar files as plain functions on lists of bytes. No walk. The tokens of a string as a plain function; each token but the last moves on. No walk. Grammars as plain lists: the first node, the depth and the rule of a node, post-order read backwards (as the reference does) and by a stack (as the program does); that both ways agree. No walk. The program's check of the order, by a stack, is the reference's; depths; the rule of a node; names; nodes that are well made; what Check says of a grammar. No walk. A law for a statement whose order Go leaves open, and that holds calls: it is enough to say of each operation what its result is like in every world, and that the operations before it in the text's edges suffice for that. Nothing here speaks of one program. The law of YtmjnbapkpcfgcaaGreatDoorRegion, for a statement that stores at its end, too: what is known of the world may hang on which operations are over. Items in prefix order as plain lists: the nodes of one expression (as the reference takes them), how many items it has (as the program counts them), the items of a node, and that each way leads back. No walk. What stands ahead of a string moves its tokens; a line end behind it ends them. No walk. -/
import Derived.Orders
import Derived.Below
import Derived.RowKit
namespace Go.Proofs.YtmjnbapkpcfgcaaGreatDoor
/-- The bytes of a string. -/
def bts (s : ByteArray) : List Nat := s.data.toList.map UInt8.toNat
theorem bts_length (s : ByteArray) : (bts s).length = s.size := by unfold bts; rw [List.length_map]; exact Array.length_toList
theorem bts_lt (s : ByteArray) : ∀ x, x ∈ bts s → x < 256 := by
  intro x hx
  unfold bts at hx
  obtain ⟨u, -, rfl⟩ := List.mem_map.1 hx
  exact u.toNat_lt
theorem bts_at (s : ByteArray) (k : Nat) (h : k < s.size) : (bts s)[k]? = some (s[k].toNat) := by
  unfold bts
  rw [List.getElem?_map, List.getElem?_eq_getElem (by rw [Array.length_toList]; exact h)]
  rfl
theorem bts_drop (s : ByteArray) (k : Nat) (h : k < s.size) : (bts s).drop k = s[k].toNat :: (bts s).drop (k + 1) := by
  rw [List.drop_eq_getElem_cons (by rw [bts_length]; exact h)]
  congr 1
  have := bts_at s k h
  rw [List.getElem?_eq_getElem (by rw [bts_length]; exact h)] at this
  exact Option.some.inj this
theorem bts_cons (s : ByteArray) (h : 0 < s.size) : bts s = s[0].toNat :: (bts s).drop 1 := bts_drop s 0 h
theorem bts_extract (s : ByteArray) (i j : Nat) : bts (s.extract i j) = ((bts s).drop i).take (j - i) := by
  unfold bts
  rw [ByteArray.data_extract, Array.toList_extract, List.extract_eq_take_drop, List.map_take, List.map_drop]
theorem bts_append (a b : ByteArray) : bts (a ++ b) = bts a ++ bts b := by
  unfold bts
  rw [ByteArray.data_append, Array.toList_append, List.map_append]
theorem bts_inj {a b : ByteArray} (h : bts a = bts b) : a = b := by
  unfold bts at h
  have h2 : a.data.toList = b.data.toList := by
    have := congrArg (List.map UInt8.ofNat) h
    simpa [List.map_map, Function.comp_def] using this
  cases a; cases b
  congr 1
  exact Array.toList_inj.1 h2
/-- the string of the bytes l -/
def strOf (l : List Nat) : ByteArray := ⟨(l.map UInt8.ofNat).toArray⟩
theorem bts_strOf (l : List Nat) (h : ∀ x, x ∈ l → x < 256) : bts (strOf l) = l := by
  unfold bts strOf
  simp only [List.map_map]
  conv => rhs; rw [← List.map_id l]
  refine List.map_congr_left fun x hx => ?_
  have := h x hx
  simp; omega
theorem strOf_bts (s : ByteArray) : strOf (bts s) = s := bts_inj (bts_strOf _ (bts_lt s))
theorem strOf_size (a : List Nat) : (strOf a).size = a.length := by unfold strOf; show ((a.map UInt8.ofNat).toArray).size = a.length; simp
def oct (d : Nat) : Bool := decide (48 ≤ d ∧ d ≤ 55)
/-- Reading digits to the base 8, from what has been read on. -/
def numF : Nat → Nat → List Nat → Nat × Nat
  | c, n, [] => (c, n)
  | c, n, d :: r => if oct d then numF (c * 8 + d - 48) (n + 1) r else (c, n)
/-- What follows a backslash: the byte, and how many bytes tell it (0: none). -/
def esc : List Nat → Nat × Nat
  | [] => (0, 0)
  | d :: r =>
    if d = 110 then (10, 1) else if d = 114 then (13, 1) else if d = 116 then (9, 1)
    else if d = 39 ∨ d = 34 ∨ d = 91 ∨ d = 93 ∨ d = 92 then (d, 1)
    else if d = 48 ∨ d = 49 ∨ d = 50 then numF 0 0 ((d :: r).take 3)
    else if d = 51 ∨ d = 52 ∨ d = 53 ∨ d = 54 ∨ d = 55 then numF 0 0 ((d :: r).take 2) else (0, 0)
theorem esc_cons (d : Nat) (r : List Nat) : esc (d :: r) =
    if d = 110 then (10, 1) else if d = 114 then (13, 1) else if d = 116 then (9, 1)
    else if d = 39 ∨ d = 34 ∨ d = 91 ∨ d = 93 ∨ d = 92 then (d, 1)
    else if d = 48 ∨ d = 49 ∨ d = 50 then numF 0 0 ((d :: r).take 3)
    else if d = 51 ∨ d = 52 ∨ d = 53 ∨ d = 54 ∨ d = 55 then numF 0 0 ((d :: r).take 2) else (0, 0) := rfl
/-- The character at the head of a list: its byte, and its length. -/
def rdl : List Nat → Option (Nat × Nat)
  | [] => none
  | d :: r => if d = 92 then (if (esc r).2 = 0 then none else some ((esc r).1, 1 + (esc r).2)) else some (d, 1)
theorem rdl_esc (r : List Nat) : rdl (92 :: r) = if (esc r).2 = 0 then none else some ((esc r).1, 1 + (esc r).2) := rfl
theorem rdl_plain (d : Nat) (r : List Nat) (h : d ≠ 92) : rdl (d :: r) = some (d, 1) := by unfold rdl; simp only [if_neg h]
/-- The character at an index. -/
def rd (l : List Nat) (p : Int) : Option (Nat × Nat) := if p < 0 then none else rdl (l.drop p.toNat)
theorem rd_neg (l : List Nat) (p : Int) (h : p < 0) : rd l p = none := by unfold rd; rw [if_pos h]
theorem rd_nat (l : List Nat) (p : Nat) : rd l (p : Int) = rdl (l.drop p) := by unfold rd; rw [if_neg (by omega)]; rfl
theorem rd_high (l : List Nat) (p : Nat) (h : l.length ≤ p) : rd l (p : Int) = none := by rw [rd_nat, List.drop_eq_nil_of_le h]; rfl
/-- Some digits to the base 8, the first one at most mx. -/
def dg (l : List Nat) (m mx : Nat) : Bool := decide (m ≤ l.length) && (decide (48 ≤ l.headD 0 ∧ l.headD 0 ≤ mx) && (l.take m).all oct)
theorem numF_one (a : Nat) (ha : oct a = true) : numF 0 0 [a] = (a - 48, 1) := by
  show (if oct a then numF (0 * 8 + a - 48) (0 + 1) [] else (0, 0)) = _
  rw [if_pos ha]
  show (0 * 8 + a - 48, 0 + 1) = _
  congr 1; omega
theorem numF_no (a : Nat) (r : List Nat) (ha : oct a = false) (c n : Nat) : numF c n (a :: r) = (c, n) := by
  show (if oct a then _ else (c, n)) = _
  rw [if_neg (by rw [ha]; decide)]
theorem numF_yes (a : Nat) (r : List Nat) (ha : oct a = true) (c n : Nat) : numF c n (a :: r) = numF (c * 8 + a - 48) (n + 1) r := by
  show (if oct a then _ else (c, n)) = _
  rw [if_pos ha]
theorem numF_bounds : ∀ (l : List Nat) (c n : Nat), n ≤ (numF c n l).2 ∧ (numF c n l).2 ≤ n + l.length
  | [], c, n => ⟨Nat.le_refl _, Nat.le_refl _⟩
  | d :: r, c, n => by
    unfold numF
    split
    · have := numF_bounds r (c * 8 + d - 48) (n + 1)
      rw [List.length_cons]
      omega
    · rw [List.length_cons]; exact ⟨Nat.le_refl _, by omega⟩
theorem esc_len (l : List Nat) : (esc l).2 ≤ l.length := by
  cases l with
  | nil => exact Nat.le_refl _
  | cons d r =>
    rw [esc_cons]
    have h3 := (numF_bounds ((d :: r).take 3) 0 0).2
    have h2 := (numF_bounds ((d :: r).take 2) 0 0).2
    generalize numF 0 0 ((d :: r).take 3) = x at h3
    generalize numF 0 0 ((d :: r).take 2) = y at h2
    rw [List.length_take, List.length_cons] at h3 h2
    rw [List.length_cons]
    repeat' split
    all_goals omega
theorem rdl_len (l : List Nat) (c n : Nat) (h : rdl l = some (c, n)) : 1 ≤ n ∧ n ≤ l.length := by
  cases l with
  | nil => cases h
  | cons d r =>
    rw [List.length_cons]
    by_cases hd : d = 92
    · subst hd
      rw [rdl_esc] at h
      have := esc_len r
      by_cases h0 : (esc r).2 = 0
      · rw [if_pos h0] at h; cases h
      · rw [if_neg h0] at h
        obtain ⟨-, rfl⟩ := Prod.mk.inj (Option.some.inj h)
        omega
    · rw [rdl_plain d r hd] at h
      obtain ⟨-, rfl⟩ := Prod.mk.inj (Option.some.inj h)
      omega
theorem oct_iff (d : Nat) : oct d = true ↔ (48 ≤ d ∧ d ≤ 55) := by unfold oct; simp
theorem oct_no (d : Nat) : oct d = false ↔ ¬ (48 ≤ d ∧ d ≤ 55) := by unfold oct; simp
/-- What the reference does behind a backslash, in its order. -/
theorem esc_dg (c : Nat) (r : List Nat) (h1 : c ≠ 110) (h2 : c ≠ 114) (h3 : c ≠ 116) (h4 : ¬ (c = 39 ∨ c = 34 ∨ c = 91 ∨ c = 93 ∨ c = 92)) :
    esc (c :: r) = if dg (c :: r) 3 50 = true then (64 * (c - 48) + 8 * (r.getD 0 0 - 48) + (r.getD 1 0 - 48), 3)
      else if dg (c :: r) 2 55 = true then (8 * (c - 48) + (r.getD 0 0 - 48), 2)
      else if dg (c :: r) 1 55 = true then (c - 48, 1) else (0, 0) := by
  rw [esc_cons, if_neg h1, if_neg h2, if_neg h3, if_neg h4]
  by_cases hc : oct c = true
  · have hc' := (oct_iff c).1 hc
    match r with
    | [] =>
      have e3 : dg [c] 3 50 = false := by unfold dg; simp
      have e2 : dg [c] 2 55 = false := by unfold dg; simp
      have e1 : dg [c] 1 55 = true := by unfold dg; simp [hc, hc']
      rw [e3, e2, e1]
      have t3 : [c].take 3 = [c] := rfl
      have t2 : [c].take 2 = [c] := rfl
      rw [t3, t2, numF_one c hc]
      split
      · rfl
      · rw [if_pos (by omega)]; rfl
    | [a] =>
      have e3 : dg [c, a] 3 50 = false := by unfold dg; simp
      have e1 : dg [c, a] 1 55 = true := by unfold dg; simp [hc, hc']
      have t3 : [c, a].take 3 = [c, a] := rfl
      have t2 : [c, a].take 2 = [c, a] := rfl
      rw [e3, e1, t3, t2, numF_yes c [a] hc]
      cases ha : oct a
      · have e2 : dg [c, a] 2 55 = false := by unfold dg; simp [ha]
        rw [numF_no a [] ha, e2]
        split
        · simp
        · rw [if_pos (by omega)]; simp
      · have e2 : dg [c, a] 2 55 = true := by unfold dg; simp [ha, hc, hc']
        have ha' := (oct_iff a).1 ha
        rw [numF_yes a [] ha, e2]
        have : numF ((0 * 8 + c - 48) * 8 + a - 48) (0 + 1 + 1) [] = (8 * (c - 48) + (a - 48), 2) := by unfold numF; congr 1; omega
        rw [this]
        split
        · simp
        · rw [if_pos (by omega)]; simp
    | a :: b :: r' =>
      have e1 : dg (c :: a :: b :: r') 1 55 = true := by unfold dg; simp [hc, hc']
      have t3 : (c :: a :: b :: r').take 3 = [c, a, b] := rfl
      have t2 : (c :: a :: b :: r').take 2 = [c, a] := rfl
      rw [e1, t3, t2, numF_yes c [a, b] hc, numF_yes c [a] hc]
      cases ha : oct a
      · have e3 : dg (c :: a :: b :: r') 3 50 = false := by unfold dg; simp [ha]
        have e2 : dg (c :: a :: b :: r') 2 55 = false := by unfold dg; simp [ha]
        rw [numF_no a _ ha, numF_no a _ ha, e3, e2]
        split
        · simp
        · rw [if_pos (by omega)]; simp
      · have e2 : dg (c :: a :: b :: r') 2 55 = true := by unfold dg; simp [ha, hc, hc']
        have ha' := (oct_iff a).1 ha
        rw [numF_yes a _ ha, numF_yes a _ ha, e2]
        have t : numF ((0 * 8 + c - 48) * 8 + a - 48) (0 + 1 + 1) [] = (8 * (c - 48) + (a - 48), 2) := by unfold numF; congr 1; omega
        rw [t]
        cases hb : oct b
        · have e3 : dg (c :: a :: b :: r') 3 50 = false := by unfold dg; simp [hb]
          rw [numF_no b _ hb, e3]
          have : ((0 * 8 + c - 48) * 8 + a - 48, 0 + 1 + 1) = (8 * (c - 48) + (a - 48), 2) := by congr 1; omega
          rw [this]
          split
          · simp
          · rw [if_pos (by omega)]; simp
        · have hb' := (oct_iff b).1 hb
          rw [numF_yes b _ hb]
          have t : numF (((0 * 8 + c - 48) * 8 + a - 48) * 8 + b - 48) (0 + 1 + 1 + 1) [] = (64 * (c - 48) + 8 * (a - 48) + (b - 48), 3) := by unfold numF; congr 1; omega
          rw [t]
          by_cases h50 : c ≤ 50
          · have e3 : dg (c :: a :: b :: r') 3 50 = true := by unfold dg; simp [hb, ha, hc]; omega
            rw [e3, if_pos (by omega)]; simp
          · have e3 : dg (c :: a :: b :: r') 3 50 = false := by unfold dg; simp; omega
            rw [e3, if_neg (by omega), if_pos (by omega)]; simp
  · have hc' : oct c = false := by simpa using hc
    have hn := (oct_no c).1 hc'
    have e3 : dg (c :: r) 3 50 = false := by unfold dg; simp; omega
    have e2 : dg (c :: r) 2 55 = false := by unfold dg; simp; omega
    have e1 : dg (c :: r) 1 55 = false := by unfold dg; simp; omega
    rw [e3, e2, e1, if_neg (by omega), if_neg (by omega)]; simp
theorem esc_le (l : List Nat) (hl : ∀ x, x ∈ l → x < 256) : (esc l).1 < 256 := by
  cases l with
  | nil => decide
  | cons c r =>
    have hc := hl c (List.mem_cons_self ..)
    by_cases h1 : c = 110
    · subst h1; rw [esc_cons]; simp
    by_cases h2 : c = 114
    · subst h2; rw [esc_cons]; simp
    by_cases h3 : c = 116
    · subst h3; rw [esc_cons]; simp
    by_cases h4 : c = 39 ∨ c = 34 ∨ c = 91 ∨ c = 93 ∨ c = 92
    · rw [esc_cons, if_neg h1, if_neg h2, if_neg h3, if_pos h4]; exact hc
    rw [esc_dg c r h1 h2 h3 h4]
    split
    · rename_i h
      unfold dg at h
      simp only [Bool.and_eq_true, decide_eq_true_eq, List.headD_cons] at h
      obtain ⟨h5, h6, h7⟩ := h
      replace h6 : 48 ≤ c ∧ c ≤ 50 := of_decide_eq_true h6
      rw [List.length_cons] at h5
      match r, h5, h7 with
      | a :: b :: r', _, h7 =>
        have e : (c :: a :: b :: r').take 3 = [c, a, b] := rfl
        rw [e] at h7
        simp only [List.all_cons, List.all_nil, Bool.and_eq_true, oct_iff] at h7
        simp
        omega
    · split
      · rename_i h
        unfold dg at h
        simp only [Bool.and_eq_true, decide_eq_true_eq, List.headD_cons] at h
        obtain ⟨h5, h6, h7⟩ := h
        rw [List.length_cons] at h5
        match r, h5, h7 with
        | a :: r', _, h7 =>
          have e : (c :: a :: r').take 2 = [c, a] := rfl
          rw [e] at h7
          simp only [List.all_cons, List.all_nil, Bool.and_eq_true, oct_iff] at h7
          simp
          omega
      · split
        · simp; omega
        · simp
theorem rdl_lt (l : List Nat) (hl : ∀ x, x ∈ l → x < 256) (c n : Nat) (h : rdl l = some (c, n)) : c < 256 := by
  cases l with
  | nil => cases h
  | cons d r =>
    by_cases hd : d = 92
    · subst hd
      rw [rdl_esc] at h
      have := esc_le r (fun x hx => hl x (List.mem_cons_of_mem _ hx))
      by_cases h0 : (esc r).2 = 0
      · rw [if_pos h0] at h; cases h
      · rw [if_neg h0] at h
        obtain ⟨rfl, -⟩ := Prod.mk.inj (Option.some.inj h)
        exact this
    · rw [rdl_plain d r hd] at h
      obtain ⟨rfl, -⟩ := Prod.mk.inj (Option.some.inj h)
      exact hl _ (List.mem_cons_self ..)
theorem rd_some {s : ByteArray} {p : Int} {c n : Nat} (h : rd (bts s) p = some (c, n)) : 0 ≤ p ∧ p + n ≤ s.size ∧ 1 ≤ n ∧ c < 256 := by
  by_cases hn : p < 0
  · rw [rd_neg _ _ hn] at h; cases h
  · obtain ⟨k, rfl⟩ : ∃ k : Nat, p = k := ⟨p.toNat, by omega⟩
    rw [rd_nat] at h
    have h1 := rdl_len _ _ _ h
    have h2 := rdl_lt _ (fun x hx => bts_lt s x (List.mem_of_mem_drop hx)) _ _ h
    rw [List.length_drop, bts_length] at h1
    omega
end Go.Proofs.YtmjnbapkpcfgcaaGreatDoor
namespace Go.Proofs.YtmjnbapkpcfgcaaGreatDoor
theorem rdl_drop_lt {d : Nat} {r : List Nat} {c n : Nat} (h : rdl (d :: r) = some (c, n)) : ((d :: r).drop n).length < (d :: r).length := by
  have := rdl_len _ _ _ h
  rw [List.length_drop]; omega
end Go.Proofs.YtmjnbapkpcfgcaaGreatDoor
namespace Go.Proofs.YtmjnbapkpcfgcaaGreatDoor
/-- May a byte stand in an identifier? -/
def letB (c : Nat) (first : Bool) : Bool := if 48 ≤ c ∧ c ≤ 57 then !first else decide (c = 95 ∨ (97 ≤ c ∧ c ≤ 122) ∨ (65 ≤ c ∧ c ≤ 90))
/-- Are all bytes of an identifier's kind, the first one as a first one if f says so? -/
def allF : Bool → List Nat → Bool
  | _, [] => true
  | f, c :: r => if letB c f then allF false r else false
theorem allF_yes {f : Bool} {c : Nat} {r : List Nat} (h : letB c f = true) : allF f (c :: r) = allF false r := by
  show (if letB c f then allF false r else false) = _
  rw [if_pos h]
theorem allF_no {f : Bool} {c : Nat} {r : List Nat} (h : letB c f = false) : allF f (c :: r) = false := by
  show (if letB c f then allF false r else false) = _
  rw [h]; rfl
def nameB (l : List Nat) : Bool := !l.isEmpty && allF true l
/-- How many bytes stand ahead of the first line end. -/
def comL : List Nat → Option Nat
  | [] => none
  | c :: r => if c = 10 ∨ c = 13 then some 0 else (comL r).map (· + 1)
theorem comL_end {c : Nat} {r : List Nat} (h : c = 10 ∨ c = 13) : comL (c :: r) = some 0 := by
  show (if c = 10 ∨ c = 13 then some 0 else (comL r).map (· + 1)) = _
  rw [if_pos h]
theorem comL_step {c : Nat} {r : List Nat} (h : ¬ (c = 10 ∨ c = 13)) : comL (c :: r) = (comL r).map (· + 1) := by
  show (if c = 10 ∨ c = 13 then some 0 else (comL r).map (· + 1)) = _
  rw [if_neg h]
theorem comL_lt : ∀ (l : List Nat) (m : Nat), comL l = some m → m < l.length
  | [], m, h => by cases h
  | c :: r, m, h => by
    rw [List.length_cons]
    by_cases hc : c = 10 ∨ c = 13
    · rw [comL_end hc] at h; cases h; omega
    · rw [comL_step hc] at h
      obtain ⟨k, hk, rfl⟩ := Option.map_eq_some_iff.1 h
      have := comL_lt r k hk
      omega
/-- Spacing at the head of a list: how many bytes, and whether all comments end. -/
def skipL (l : List Nat) : Nat × Bool :=
  match l with
  | [] => (0, true)
  | c :: r =>
    if c = 32 ∨ c = 9 ∨ c = 10 ∨ c = 13 then ((skipL r).1 + 1, (skipL r).2)
    else if c ≠ 35 then (0, true)
    else match _h : comL r with
      | none => (0, false)
      | some m => ((skipL (r.drop m)).1 + (m + 1), (skipL (r.drop m)).2)
termination_by l.length
decreasing_by
  · exact Nat.lt_succ_self _
  · rw [List.length_cons, List.length_drop]; omega
theorem skipL_nil : skipL [] = (0, true) := by rw [skipL]
theorem skipL_space {c : Nat} {r : List Nat} (h : c = 32 ∨ c = 9 ∨ c = 10 ∨ c = 13) : skipL (c :: r) = ((skipL r).1 + 1, (skipL r).2) := by
  conv => lhs; rw [skipL]
  rw [if_pos h]
theorem skipL_stop {c : Nat} {r : List Nat} (h : ¬ (c = 32 ∨ c = 9 ∨ c = 10 ∨ c = 13)) (h2 : c ≠ 35) : skipL (c :: r) = (0, true) := by
  rw [skipL, if_neg h, if_pos h2]
theorem skipL_bad {r : List Nat} (h : comL r = none) : skipL (35 :: r) = (0, false) := by
  rw [skipL, if_neg (by decide), if_neg (by decide)]
  split
  · rfl
  · rename_i h'; rw [h] at h'; cases h'
theorem skipL_com {r : List Nat} {m : Nat} (h : comL r = some m) : skipL (35 :: r) = ((skipL (r.drop m)).1 + (m + 1), (skipL (r.drop m)).2) := by
  conv => lhs; rw [skipL, if_neg (by decide), if_neg (by decide)]
  split
  · rename_i h'; rw [h] at h'; cases h'
  · rename_i m' h'
    rw [h] at h'
    cases h'; rfl
theorem skipL_le : ∀ (n : Nat) (l : List Nat), l.length ≤ n → (skipL l).1 ≤ l.length
  | _, [], _ => by rw [skipL_nil]; exact Nat.le_refl _
  | 0, c :: r, h => absurd h (by rw [List.length_cons]; omega)
  | n + 1, c :: r, h => by
    rw [List.length_cons] at h ⊢
    by_cases h1 : c = 32 ∨ c = 9 ∨ c = 10 ∨ c = 13
    · rw [skipL_space h1]
      have := skipL_le n r (by omega)
      show (skipL r).1 + 1 ≤ _
      omega
    · by_cases h2 : c = 35
      · subst h2
        cases hc : comL r with
        | none => rw [skipL_bad hc]; exact Nat.zero_le _
        | some m =>
          rw [skipL_com hc]
          have h3 := comL_lt _ _ hc
          have := skipL_le n (r.drop m) (by rw [List.length_drop]; omega)
          rw [List.length_drop] at this
          show (skipL (r.drop m)).1 + (m + 1) ≤ _
          omega
      · rw [skipL_stop h1 h2]; exact Nat.zero_le _
/-- How many bytes of an identifier stand at the head. -/
def idL : Bool → List Nat → Nat
  | _, [] => 0
  | first, c :: r => if letB c first then idL false r + 1 else 0
theorem idL_yes {first : Bool} {c : Nat} {r : List Nat} (h : letB c first = true) : idL first (c :: r) = idL false r + 1 := by
  show (if letB c first then idL false r + 1 else 0) = _
  rw [if_pos h]
theorem idL_no {first : Bool} {c : Nat} {r : List Nat} (h : letB c first = false) : idL first (c :: r) = 0 := by
  show (if letB c first then idL false r + 1 else 0) = _
  rw [h]; rfl
theorem idL_le : ∀ (l : List Nat) (first : Bool), idL first l ≤ l.length
  | [], _ => Nat.le_refl _
  | c :: r, first => by
    cases h : letB c first
    · rw [idL_no h]; exact Nat.zero_le _
    · rw [idL_yes h, List.length_cons]
      have := idL_le r false
      omega
/-- The ranges of a class behind its opening: what they hold, and how many bytes with the closing. -/
def clsL (l : List Nat) : Option (List (Nat × Nat) × Nat) :=
  match l with
  | [] => none
  | c :: r =>
    if c = 93 then some ([], 1) else
    match _h : rdl (c :: r) with
    | none => none
    | some (lo, n) =>
      match (c :: r).drop n with
      | 45 :: t =>
        match rdl t with
        | none => (clsL ((c :: r).drop n)).map fun x => ((lo, lo) :: x.1, n + x.2)
        | some (hi, m) => (clsL ((c :: r).drop (n + 1 + m))).map fun x => ((lo, hi) :: x.1, n + 1 + m + x.2)
      | _ => (clsL ((c :: r).drop n)).map fun x => ((lo, lo) :: x.1, n + x.2)
termination_by l.length
decreasing_by
  all_goals
    have := rdl_len _ _ _ _h
    rw [List.length_drop]; omega
/-- The characters of a literal behind its opening, up to the first that begins with q: their bytes, and how many bytes with the closing. -/
def litE (q : Nat) (l : List Nat) : Option (List Nat × Nat) :=
  match l with
  | [] => none
  | d :: r =>
    if d = q then some ([], 1) else
    match _h : rdl (d :: r) with
    | none => none
    | some (c, n) => (litE q ((d :: r).drop n)).map fun x => (c :: x.1, n + x.2)
termination_by l.length
decreasing_by exact rdl_drop_lt _h
/-- Is a byte in one of some ranges? -/
def inRs (rs : List (Nat × Nat)) (i : Nat) : Bool := rs.any fun r => decide (r.1 ≤ i ∧ i ≤ r.2)
theorem clsL_nil : clsL [] = none := by rw [clsL]
theorem clsL_end {r : List Nat} : clsL (93 :: r) = some ([], 1) := by rw [clsL, if_pos rfl]
theorem clsL_bad {c : Nat} {r : List Nat} (h : rdl (c :: r) = none) (hc : c ≠ 93) : clsL (c :: r) = none := by
  rw [clsL, if_neg hc]
  split
  · rfl
  · rename_i h'; rw [h] at h'; cases h'
theorem clsL_range {c lo n hi m : Nat} {r t : List Nat} (h : rdl (c :: r) = some (lo, n)) (hc : c ≠ 93) (hd : (c :: r).drop n = 45 :: t) (ht : rdl t = some (hi, m)) :
    clsL (c :: r) = (clsL ((c :: r).drop (n + 1 + m))).map fun x => ((lo, hi) :: x.1, n + 1 + m + x.2) := by
  conv => lhs; rw [clsL]
  rw [if_neg hc]
  split
  · rename_i h'; rw [h] at h'; cases h'
  · rename_i lo' n' h'
    rw [h] at h'
    obtain ⟨rfl, rfl⟩ := Prod.mk.inj (Option.some.inj h')
    split
    · rename_i t' h2
      rw [hd] at h2
      obtain rfl := (List.cons.inj h2).2
      split
      · rename_i h3; rw [ht] at h3; cases h3
      · rename_i hi' m' h3
        rw [ht] at h3
        obtain ⟨rfl, rfl⟩ := Prod.mk.inj (Option.some.inj h3)
        rfl
    · rename_i h2
      exact absurd hd (h2 t)
theorem clsL_one {c lo n : Nat} {r : List Nat} (h : rdl (c :: r) = some (lo, n)) (hc : c ≠ 93) (hd : ∀ t, (c :: r).drop n = 45 :: t → rdl t = none) :
    clsL (c :: r) = (clsL ((c :: r).drop n)).map fun x => ((lo, lo) :: x.1, n + x.2) := by
  conv => lhs; rw [clsL]
  rw [if_neg hc]
  split
  · rename_i h'; rw [h] at h'; cases h'
  · rename_i lo' n' h'
    rw [h] at h'
    obtain ⟨rfl, rfl⟩ := Prod.mk.inj (Option.some.inj h')
    split
    · rename_i t' h2
      have h4 := hd t' h2
      split
      · rfl
      · rename_i hi' m' h3
        rw [h4] at h3; cases h3
    · rfl
theorem litE_nil (q : Nat) : litE q [] = none := by rw [litE]
theorem litE_end {q : Nat} {r : List Nat} : litE q (q :: r) = some ([], 1) := by rw [litE, if_pos rfl]
theorem litE_bad {q d : Nat} {r : List Nat} (h : rdl (d :: r) = none) (hd : d ≠ q) : litE q (d :: r) = none := by
  rw [litE, if_neg hd]
  split
  · rfl
  · rename_i h'; rw [h] at h'; cases h'
theorem litE_step {q d c n : Nat} {r : List Nat} (h : rdl (d :: r) = some (c, n)) (hd : d ≠ q) : litE q (d :: r) = (litE q ((d :: r).drop n)).map fun x => (c :: x.1, n + x.2) := by
  conv => lhs; rw [litE]
  rw [if_neg hd]
  split
  · rename_i h'; rw [h] at h'; cases h'
  · rename_i c' n' h'
    rw [h] at h'
    obtain ⟨rfl, rfl⟩ := Prod.mk.inj (Option.some.inj h')
    rfl
theorem litE_map (o : Option (List Nat × Nat)) (acc : List Nat) (a c n : Nat) :
    (o.map fun x => (c :: x.1, n + x.2)).map (fun x => (acc ++ x.1, a + x.2)) = o.map fun x => ((acc ++ [c]) ++ x.1, (a + n) + x.2) := by
  cases o with
  | none => rfl
  | some x => simp; omega
theorem clsL_map (o : Option (List (Nat × Nat) × Nat)) (acc : List (Nat × Nat)) (a n : Nat) (p : Nat × Nat) :
    (o.map fun x => (p :: x.1, n + x.2)).map (fun x => (acc ++ x.1, a + x.2)) = o.map fun x => ((acc ++ [p]) ++ x.1, (a + n) + x.2) := by
  cases o with
  | none => rfl
  | some x => simp; omega
theorem inRs_snoc (rs : List (Nat × Nat)) (p : Nat × Nat) (i : Nat) : inRs (rs ++ [p]) i = (inRs rs i || decide (p.1 ≤ i ∧ i ≤ p.2)) := by
  unfold inRs; rw [List.any_append]; simp
/-- A token: its kind, its index, its text, its set. -/
structure Tok where
  kind : Nat
  at_ : Nat
  text : List Nat
  rs : List (Nat × Nat)
/-- The place of a byte in a list, counted from n on. -/
def idxL (n : Nat) : List Nat → Nat → Option Nat
  | [], _ => none
  | x :: r, c => if x = c then some n else idxL (n + 1) r c
theorem idxL_yes {n x c : Nat} {r : List Nat} (h : x = c) : idxL n (x :: r) c = some n := by
  show (if x = c then some n else idxL (n + 1) r c) = _
  rw [if_pos h]
theorem idxL_no {n x c : Nat} {r : List Nat} (h : ¬ x = c) : idxL n (x :: r) c = idxL (n + 1) r c := by
  show (if x = c then some n else idxL (n + 1) r c) = _
  rw [if_neg h]
/-- The signs / & ! ? * + ( ) . -/
def sigs : List Nat := [47, 38, 33, 63, 42, 43, 40, 41, 46]
/-- The kind of a sign. -/
def signK (c : Nat) : Option Nat := idxL 3 sigs c
/-- The token that begins a list, at index k of the string: with its end; or nothing. -/
def tokL (k : Nat) : List Nat → Option (Tok × Nat)
  | [] => some (⟨0, k, [], []⟩, k)
  | c :: r =>
    if letB c true then some (⟨1, k, (c :: r).take (idL true (c :: r)), []⟩, k + idL true (c :: r))
    else if c = 60 ∧ r.head? = some 45 then some (⟨2, k, [], []⟩, k + 2)
    else match signK c with
      | some i => some (⟨i, k, [], []⟩, k + 1)
      | none =>
        if c = 91 then (clsL r).map fun x => (⟨13, k, [], x.1⟩, k + 1 + x.2)
        else if c = 39 ∨ c = 34 then (litE c r).map fun x => (⟨12, k, x.1, []⟩, k + 1 + x.2)
        else none
theorem tokL_nil (k : Nat) : tokL k [] = some (⟨0, k, [], []⟩, k) := rfl
theorem tokL_cons (k c : Nat) (r : List Nat) : tokL k (c :: r) =
    if letB c true then some (⟨1, k, (c :: r).take (idL true (c :: r)), []⟩, k + idL true (c :: r))
    else if c = 60 ∧ r.head? = some 45 then some (⟨2, k, [], []⟩, k + 2)
    else match signK c with
      | some i => some (⟨i, k, [], []⟩, k + 1)
      | none =>
        if c = 91 then (clsL r).map fun x => (⟨13, k, [], x.1⟩, k + 1 + x.2)
        else if c = 39 ∨ c = 34 then (litE c r).map fun x => (⟨12, k, x.1, []⟩, k + 1 + x.2)
        else none := rfl
theorem tokL_id {k c : Nat} {r : List Nat} (h : letB c true = true) : tokL k (c :: r) = some (⟨1, k, (c :: r).take (idL true (c :: r)), []⟩, k + idL true (c :: r)) := by
  rw [tokL_cons, if_pos h]
theorem tokL_arrow {k c : Nat} {r : List Nat} (h1 : letB c true = false) (h2 : c = 60 ∧ r.head? = some 45) : tokL k (c :: r) = some (⟨2, k, [], []⟩, k + 2) := by
  rw [tokL_cons, h1, if_neg (by decide), if_pos h2]
theorem tokL_sign {k c i : Nat} {r : List Nat} (h1 : letB c true = false) (h2 : ¬ (c = 60 ∧ r.head? = some 45)) (h3 : signK c = some i) : tokL k (c :: r) = some (⟨i, k, [], []⟩, k + 1) := by
  rw [tokL_cons, h1, if_neg (by decide), if_neg h2, h3]
theorem tokL_cls {k : Nat} {r : List Nat} : tokL k (91 :: r) = (clsL r).map fun x => (⟨13, k, [], x.1⟩, k + 1 + x.2) := rfl
theorem tokL_lit {k c : Nat} {r : List Nat} (h : c = 39 ∨ c = 34) : tokL k (c :: r) = (litE c r).map fun x => (⟨12, k, x.1, []⟩, k + 1 + x.2) := by
  rcases h with rfl | rfl <;> rfl
theorem tokL_bad {k c : Nat} {r : List Nat} (h1 : letB c true = false) (h2 : ¬ (c = 60 ∧ r.head? = some 45)) (h3 : signK c = none) (h4 : c ≠ 91) (h5 : ¬ (c = 39 ∨ c = 34)) : tokL k (c :: r) = none := by
  rw [tokL_cons, h1, if_neg (by decide), if_neg h2, h3]
  show (if c = 91 then _ else if c = 39 ∨ c = 34 then _ else none) = none
  rw [if_neg h4, if_neg h5]
/-- The next token from index p on: the token and its end, or the index of the first wrong byte. -/
def nextL (l : List Nat) (p : Nat) : Except Nat (Tok × Nat) :=
  if (skipL (l.drop p)).2 then
    match tokL (p + (skipL (l.drop p)).1) (l.drop (p + (skipL (l.drop p)).1)) with
    | some x => .ok x
    | none => .error (p + (skipL (l.drop p)).1)
  else .error (p + (skipL (l.drop p)).1)
end Go.Proofs.YtmjnbapkpcfgcaaGreatDoor
namespace Go.Proofs.YtmjnbapkpcfgcaaGreatDoor
theorem litE_len (q : Nat) : ∀ (n : Nat) (l : List Nat), l.length ≤ n → ∀ b m, litE q l = some (b, m) → 1 ≤ m ∧ m ≤ l.length
  | _, [], _, b, m, h => by rw [litE_nil] at h; cases h
  | 0, d :: r, hn, _, _, _ => absurd hn (by rw [List.length_cons]; omega)
  | n + 1, d :: r, hn, b, m, h => by
    rw [List.length_cons] at hn ⊢
    by_cases hd : d = q
    · subst hd
      rw [litE_end] at h
      cases h; omega
    · cases hr : rdl (d :: r) with
      | none => rw [litE_bad hr hd] at h; cases h
      | some x =>
        obtain ⟨c, k⟩ := x
        have hk := rdl_len _ _ _ hr
        rw [List.length_cons] at hk
        rw [litE_step hr hd] at h
        obtain ⟨⟨b', m'⟩, h', e⟩ := Option.map_eq_some_iff.1 h
        have := litE_len q n _ (by rw [List.length_drop, List.length_cons]; omega) b' m' h'
        rw [List.length_drop, List.length_cons] at this
        obtain ⟨-, rfl⟩ := Prod.mk.inj e
        show 1 ≤ k + m' ∧ k + m' ≤ _
        omega
theorem clsL_len : ∀ (n : Nat) (l : List Nat), l.length ≤ n → ∀ b m, clsL l = some (b, m) → 1 ≤ m ∧ m ≤ l.length
  | _, [], _, b, m, h => by rw [clsL_nil] at h; cases h
  | 0, d :: r, hn, _, _, _ => absurd hn (by rw [List.length_cons]; omega)
  | n + 1, d :: r, hn, b, m, h => by
    rw [List.length_cons] at hn ⊢
    by_cases hd : d = 93
    · subst hd
      rw [clsL_end] at h
      cases h; omega
    · cases hr : rdl (d :: r) with
      | none => rw [clsL_bad hr hd] at h; cases h
      | some x =>
        obtain ⟨c, k⟩ := x
        have hk := rdl_len _ _ _ hr
        rw [List.length_cons] at hk
        by_cases hg : ∃ t hi j, (d :: r).drop k = 45 :: t ∧ rdl t = some (hi, j)
        · obtain ⟨t, hi, j, h1, h2⟩ := hg
          rw [clsL_range hr hd h1 h2] at h
          obtain ⟨⟨b', m'⟩, h', e⟩ := Option.map_eq_some_iff.1 h
          have h3 := rdl_len _ _ _ h2
          have h4 := congrArg List.length h1
          rw [List.length_drop, List.length_cons, List.length_cons] at h4
          have := clsL_len n _ (by rw [List.length_drop, List.length_cons]; omega) b' m' h'
          rw [List.length_drop, List.length_cons] at this
          obtain ⟨-, rfl⟩ := Prod.mk.inj e
          show 1 ≤ k + 1 + j + m' ∧ k + 1 + j + m' ≤ _
          omega
        · rw [clsL_one hr hd (fun t ht => by
            cases h2 : rdl t with
            | none => rfl
            | some y => exact absurd ⟨t, y.1, y.2, ht, h2⟩ hg)] at h
          obtain ⟨⟨b', m'⟩, h', e⟩ := Option.map_eq_some_iff.1 h
          have := clsL_len n _ (by rw [List.length_drop, List.length_cons]; omega) b' m' h'
          rw [List.length_drop, List.length_cons] at this
          obtain ⟨-, rfl⟩ := Prod.mk.inj e
          show 1 ≤ k + m' ∧ k + m' ≤ _
          omega
theorem idxL_ge : ∀ (l : List Nat) (n c i : Nat), idxL n l c = some i → n ≤ i
  | [], n, c, i, h => by cases h
  | x :: r, n, c, i, h => by
    by_cases hx : x = c
    · rw [idxL_yes hx] at h; cases h; omega
    · rw [idxL_no hx] at h
      have := idxL_ge r (n + 1) c i h
      omega
/-- A token that is not the end has bytes. -/
theorem tokL_moves (k : Nat) (l : List Nat) (t : Tok) (n : Nat) (h : tokL k l = some (t, n)) : (t.kind = 0 ∧ l = []) ∨ (t.kind ≠ 0 ∧ k < n ∧ n ≤ k + l.length) := by
  cases l with
  | nil =>
    rw [tokL_nil] at h
    cases h
    exact Or.inl ⟨rfl, rfl⟩
  | cons c r =>
    right
    rw [List.length_cons]
    cases hl : letB c true
    · by_cases ha : c = 60 ∧ r.head? = some 45
      · rw [tokL_arrow hl ha] at h
        cases h
        have : r ≠ [] := fun e => by rw [e] at ha; cases ha.2
        have := List.length_pos_iff.2 this
        exact ⟨by show 2 ≠ 0; decide, by omega, by omega⟩
      · cases hs : signK c with
        | some i =>
          rw [tokL_sign hl ha hs] at h
          cases h
          have := idxL_ge _ _ _ _ hs
          exact ⟨by show i ≠ 0; omega, by omega, by omega⟩
        | none =>
          by_cases h91 : c = 91
          · subst h91
            rw [tokL_cls] at h
            obtain ⟨⟨b, m⟩, h', e⟩ := Option.map_eq_some_iff.1 h
            have := clsL_len _ r (Nat.le_refl _) b m h'
            cases e
            exact ⟨by show 13 ≠ 0; decide, by omega, by omega⟩
          · by_cases hq : c = 39 ∨ c = 34
            · rw [tokL_lit hq] at h
              obtain ⟨⟨b, m⟩, h', e⟩ := Option.map_eq_some_iff.1 h
              have := litE_len c _ r (Nat.le_refl _) b m h'
              cases e
              exact ⟨by show 12 ≠ 0; decide, by omega, by omega⟩
            · rw [tokL_bad hl ha hs h91 hq] at h; cases h
    · rw [tokL_id hl] at h
      have h1 := idL_le (c :: r) true
      rw [List.length_cons] at h1
      have h2 : 1 ≤ idL true (c :: r) := by rw [idL_yes hl]; omega
      cases h
      exact ⟨by show 1 ≠ 0; decide, by omega, by omega⟩
theorem nextL_moves (l : List Nat) (p : Nat) (hp : p ≤ l.length) (t : Tok) (n : Nat) (h : nextL l p = .ok (t, n)) : (t.kind = 0 ∧ n = l.length) ∨ (t.kind ≠ 0 ∧ p < n ∧ n ≤ l.length) := by
  unfold nextL at h
  have hle := skipL_le _ (l.drop p) (Nat.le_refl _)
  rw [List.length_drop] at hle
  split at h
  · generalize (skipL (l.drop p)).1 = m at h hle
    cases ht : tokL (p + m) (l.drop (p + m)) with
    | none => rw [ht] at h; cases h
    | some x =>
      rw [ht] at h
      cases h
      rcases tokL_moves _ _ _ _ ht with ⟨h1, h2⟩ | ⟨h1, h2, h3⟩
      · left
        refine ⟨h1, ?_⟩
        rw [h2, tokL_nil] at ht
        have h4 := List.drop_eq_nil_iff.1 h2
        cases ht
        omega
      · right
        rw [List.length_drop] at h3
        exact ⟨h1, by omega, by omega⟩
  · cases h
/-- All tokens from an index on, or the first error. -/
def toksL (l : List Nat) (p : Nat) : Except Nat (List Tok) :=
  match nextL l p with
  | .error k => .error k
  | .ok (t, n) => if t.kind = 0 then .ok [t] else if _h : p < n ∧ n ≤ l.length then (toksL l n).map (t :: ·) else .ok [t]
termination_by l.length - p
decreasing_by omega
theorem toksL_bad {l : List Nat} {p k : Nat} (h : nextL l p = .error k) : toksL l p = .error k := by
  rw [toksL, h]
theorem toksL_end {l : List Nat} {p n : Nat} {t : Tok} (h : nextL l p = .ok (t, n)) (ht : t.kind = 0) : toksL l p = .ok [t] := by
  rw [toksL, h]
  show (if t.kind = 0 then _ else _) = _
  rw [if_pos ht]
theorem toksL_step {l : List Nat} {p n : Nat} {t : Tok} (h : nextL l p = .ok (t, n)) (ht : t.kind ≠ 0) (hn : p < n ∧ n ≤ l.length) : toksL l p = (toksL l n).map (t :: ·) := by
  conv => lhs; rw [toksL, h]
  show (if t.kind = 0 then _ else if _h : p < n ∧ n ≤ l.length then _ else _) = _
  rw [if_neg ht, dif_pos hn]
end Go.Proofs.YtmjnbapkpcfgcaaGreatDoor
namespace Go.Proofs.YtmjnbapkpcfgcaaGreatDoor
/-- A node: its kind, its kids, its rule, the four words of its set. -/
structure PN where
  op : Int
  kids : List Int
  rule : Int
  s0 : Int
  s1 : Int
  s2 : Int
  s3 : Int
/-- A rule: its name and its root. -/
structure PR where
  name : ByteArray
  root : Int
theorem PN.eq_iff (n m : PN) : (n.op = m.op ∧ n.kids = m.kids ∧ n.rule = m.rule ∧ n.s0 = m.s0 ∧ n.s1 = m.s1 ∧ n.s2 = m.s2 ∧ n.s3 = m.s3) ↔ n = m := by
  cases n; cases m; simp
instance : DecidableEq PN := fun n m => decidable_of_iff _ (PN.eq_iff n m)
theorem PR.eq_iff (n m : PR) : (n.name = m.name ∧ n.root = m.root) ↔ n = m := by
  cases n; cases m; simp
instance : DecidableEq PR := fun n m => decidable_of_iff _ (PR.eq_iff n m)
def kidsAt (ns : List PN) (i : Nat) : List Int := match ns[i]? with
  | some n => n.kids
  | none => []
theorem kidsAt_some {ns : List PN} {i : Nat} {n : PN} (h : ns[i]? = some n) : kidsAt ns i = n.kids := by unfold kidsAt; rw [h]
/-- Kids, the last one first, read backwards from a: each is the index at hand, and then the one before its expression. -/
def chainL (ex : Int → Int) : List Int → Int → Int
  | [], a => a
  | k :: ks, a => if k = a then (if ex a = -2 then -2 else chainL ex ks (ex a)) else -2
theorem chainL_step {ex : Int → Int} {a : Int} {ks : List Int} (h : ex a ≠ -2) : chainL ex (a :: ks) a = chainL ex ks (ex a) := by
  show (if a = a then (if ex a = -2 then -2 else chainL ex ks (ex a)) else -2) = _
  rw [if_pos rfl, if_neg h]
theorem chainL_stop {ex : Int → Int} {a : Int} {ks : List Int} (h : ex a = -2) : chainL ex (a :: ks) a = -2 := by
  show (if a = a then (if ex a = -2 then -2 else chainL ex ks (ex a)) else -2) = _
  rw [if_pos rfl, if_pos h]
theorem chainL_bad {ex : Int → Int} {a k : Int} {ks : List Int} (h : k ≠ a) : chainL ex (k :: ks) a = -2 := by
  show (if k = a then (if ex a = -2 then -2 else chainL ex ks (ex a)) else -2) = _
  rw [if_neg h]
theorem chainL_cons {ex : Int → Int} {a k : Int} {ks : List Int} (h : chainL ex (k :: ks) a ≠ -2) : k = a ∧ ex a ≠ -2 ∧ chainL ex (k :: ks) a = chainL ex ks (ex a) := by
  by_cases hk : k = a
  · subst hk
    by_cases he : ex k = -2
    · exact absurd (chainL_stop he) h
    · exact ⟨rfl, he, chainL_step he⟩
  · exact absurd (chainL_bad hk) h
/-- The index before the expression of node i, -2 where it is not in post-order; the first number bounds the depth of the reading. -/
def exF (ns : List PN) : Nat → Int → Int
  | 0, _ => -2
  | f + 1, i => if i < 0 then -2 else chainL (exF ns f) (kidsAt ns i.toNat).reverse (i - 1)
theorem exF_lt (ns : List PN) : ∀ (f : Nat) (i : Int), exF ns f i ≠ -2 → -1 ≤ exF ns f i ∧ exF ns f i < i ∧ 0 ≤ i
  | 0, i, h => absurd rfl h
  | f + 1, i, h => by
    have hd : exF ns (f + 1) i = if i < 0 then -2 else chainL (exF ns f) (kidsAt ns i.toNat).reverse (i - 1) := rfl
    by_cases hi : i < 0
    · rw [hd, if_pos hi] at h; exact absurd rfl h
    · rw [hd, if_neg hi] at h ⊢
      have key : ∀ (ks : List Int) (a : Int), -1 ≤ a → chainL (exF ns f) ks a ≠ -2 → -1 ≤ chainL (exF ns f) ks a ∧ chainL (exF ns f) ks a ≤ a := by
        intro ks
        induction ks with
        | nil => intro a ha _; exact ⟨ha, Int.le_refl _⟩
        | cons k ks ih =>
          intro a ha hc
          obtain ⟨-, he, hs⟩ := chainL_cons hc
          rw [hs] at hc ⊢
          have h1 := exF_lt ns f a he
          have h2 := ih _ h1.1 hc
          omega
      have := key _ (i - 1) (by omega) h
      omega
theorem exF_fuel (ns : List PN) : ∀ (f g : Nat) (i : Int), i < f → i < g → exF ns f i = exF ns g i
  | 0, 0, i, _, _ => rfl
  | 0, g + 1, i, h, _ => by
    show -2 = if i < 0 then -2 else _
    rw [if_pos (by omega)]
  | f + 1, 0, i, _, h => by
    show (if i < 0 then -2 else _) = -2
    rw [if_pos (by omega)]
  | f + 1, g + 1, i, h, h' => by
    show (if i < 0 then -2 else chainL (exF ns f) (kidsAt ns i.toNat).reverse (i - 1)) = (if i < 0 then -2 else chainL (exF ns g) (kidsAt ns i.toNat).reverse (i - 1))
    by_cases hi : i < 0
    · rw [if_pos hi, if_pos hi]
    · rw [if_neg hi, if_neg hi]
      have key : ∀ (ks : List Int) (a : Int), a < f → a < g → chainL (exF ns f) ks a = chainL (exF ns g) ks a := by
        intro ks
        induction ks with
        | nil => intro a _ _; rfl
        | cons k ks ih =>
          intro a ha hb
          have he := exF_fuel ns f g a ha hb
          by_cases hk : k = a
          · subst hk
            by_cases h2 : exF ns f k = -2
            · rw [chainL_stop h2, chainL_stop (he ▸ h2)]
            · have h3 : exF ns g k ≠ -2 := he ▸ h2
              rw [chainL_step h2, chainL_step h3, ← he]
              have := exF_lt ns f k h2
              exact ih _ (by omega) (by omega)
          · rw [chainL_bad hk, chainL_bad hk]
      exact key _ _ (by omega) (by omega)
def exL (ns : List PN) (i : Int) : Int := exF ns (i.toNat + 1) i
theorem exL_eqF (ns : List PN) (f : Nat) (i : Int) (h : i < f) : exF ns f i = exL ns i := exF_fuel ns _ _ _ h (by omega)
theorem chainL_congr {f g : Int → Int} (hf : ∀ a, f a ≠ -2 → f a < a) : ∀ (ks : List Int) (a : Int), (∀ b, b ≤ a → f b = g b) → chainL f ks a = chainL g ks a
  | [], a, _ => rfl
  | k :: ks, a, h => by
    have he := h a (Int.le_refl _)
    by_cases hk : k = a
    · subst hk
      by_cases h2 : f k = -2
      · rw [chainL_stop h2, chainL_stop (he ▸ h2)]
      · have h3 : g k ≠ -2 := he ▸ h2
        rw [chainL_step h2, chainL_step h3, ← he]
        have := hf k h2
        exact chainL_congr hf ks _ (fun b hb => h b (by omega))
    · rw [chainL_bad hk, chainL_bad hk]
theorem exL_lt (ns : List PN) (i : Int) (h : exL ns i ≠ -2) : -1 ≤ exL ns i ∧ exL ns i < i ∧ 0 ≤ i := exF_lt ns _ _ h
theorem exL_eq (ns : List PN) (i : Int) (h : 0 ≤ i) : exL ns i = chainL (exL ns) (kidsAt ns i.toNat).reverse (i - 1) := by
  have : exL ns i = chainL (exF ns i.toNat) (kidsAt ns i.toNat).reverse (i - 1) := by
    show (if i < 0 then -2 else chainL (exF ns i.toNat) (kidsAt ns i.toNat).reverse (i - 1)) = _
    rw [if_neg (by omega)]
  rw [this]
  exact chainL_congr (fun a ha => (exF_lt ns _ a ha).2.1) _ _ (fun b hb => exL_eqF ns _ _ (by omega))
/-- All nodes are in post-order. -/
def AllEx (ns : List PN) : Prop := ∀ x : Int, 0 ≤ x → x < ns.length → exL ns x ≠ -2
/-- The kids of a node in a chain lie between. -/
theorem chain_kids {ns : List PN} : ∀ (ks : List Int) (a : Int), chainL (exL ns) ks a ≠ -2 → ∀ k, k ∈ ks → 0 ≤ k ∧ k ≤ a
  | [], _, _, k, hk => by cases hk
  | x :: ks, a, h, k, hk => by
    obtain ⟨rfl, he, hs⟩ := chainL_cons h
    have hl := exL_lt ns x he
    rw [hs] at h
    rcases List.mem_cons.1 hk with rfl | hk
    · exact ⟨hl.2.2, Int.le_refl _⟩
    · have := chain_kids ks _ h k hk
      omega
def KidsBelow (ns : List PN) : Prop := ∀ (i : Nat) (n : PN), ns[i]? = some n → ∀ k, k ∈ n.kids → 0 ≤ k ∧ k < (i : Int)
theorem AllEx.kids {ns : List PN} (h : AllEx ns) : KidsBelow ns := fun i n hn k hk => by
  have hl := (List.getElem?_eq_some_iff.1 hn).1
  have he := h i (by omega) (by omega)
  rw [exL_eq ns i (by omega)] at he
  have hk' : k ∈ (kidsAt ns (i : Int).toNat).reverse := by
    rw [show (i : Int).toNat = i by omega, kidsAt_some hn]; exact List.mem_reverse.2 hk
  have := chain_kids _ _ he k hk'
  omega
end Go.Proofs.YtmjnbapkpcfgcaaGreatDoor
namespace Go.Proofs.YtmjnbapkpcfgcaaGreatDoor
end Go.Proofs.YtmjnbapkpcfgcaaGreatDoor
namespace Go.Proofs.YtmjnbapkpcfgcaaGreatDoor
open Go.RowKit
def fill : List Oper → Nat → (Nat → Bool) → (Nat → Value) → Act → Act
  | [], _, _, _, a => a
  | o :: r, i, L, vals, a => fill r (i + 1) L vals (if L i then a.put o.dst (vals i) else a)
def apartB : List Oper → Bool
  | [] => true
  | o :: r => (r.all fun o' => o.dst.isNone || o'.dst != o.dst) && apartB r
theorem fill_congr : ∀ (l : List Oper) (i : Nat) (L L' : Nat → Bool) (vals vals' : Nat → Value) (a : Act), (∀ k, i ≤ k → L k = L' k ∧ vals k = vals' k) → fill l i L vals a = fill l i L' vals' a
  | [], _, _, _, _, _, _, _ => rfl
  | o :: r, i, L, L', vals, vals', a, h => by
    unfold fill
    rw [(h i (Nat.le_refl _)).1, (h i (Nat.le_refl _)).2]
    exact fill_congr r (i + 1) L L' vals vals' _ fun k hk => h k (by omega)
theorem fill_put : ∀ (l : List Oper) (i : Nat) (L : Nat → Bool) (vals : Nat → Value) (a : Act) (d : Option Tmp) (v : Value), (∀ o, o ∈ l → d = none ∨ o.dst ≠ d) → (fill l i L vals a).put d v = fill l i L vals (a.put d v)
  | [], _, _, _, _, _, _, _ => rfl
  | o :: r, i, L, vals, a, d, v, h => by
    unfold fill
    rw [fill_put r (i + 1) L vals _ d v fun o' ho => h o' (List.mem_cons.2 (Or.inr ho))]
    congr 1
    split
    · rcases h o (List.mem_cons.2 (Or.inl rfl)) with rfl | hne
      · rfl
      · exact Act.put_comm a (vals i) v (fun t ht he => hne (by rw [ht, he]))
    · rfl
theorem apart_head {o : Oper} {r : List Oper} (h : apartB (o :: r) = true) : (∀ o', o' ∈ r → o.dst = none ∨ o'.dst ≠ o.dst) ∧ apartB r = true := by
  unfold apartB at h
  rw [Bool.and_eq_true] at h
  refine ⟨fun o' ho => ?_, h.2⟩
  have := List.all_eq_true.1 h.1 o' ho
  rw [Bool.or_eq_true] at this
  rcases this with h1 | h1
  · exact .inl (by cases hd : o.dst with | none => rfl | some d => rw [hd] at h1; cases h1)
  · exact .inr (by simpa using h1)
theorem fill_set : ∀ (l : List Oper) (i j : Nat) (o : Oper) (L : Nat → Bool) (vals : Nat → Value) (a : Act) (v : Value), apartB l = true → l[j]? = some o → L (i + j) = false →
    (fill l i L vals a).put o.dst v = fill l i (fun k => if k = i + j then true else L k) (fun k => if k = i + j then v else vals k) a
  | [], _, _, _, _, _, _, _, _, h, _ => by cases h
  | o' :: r, i, 0, o, L, vals, a, v, ha, h, hL => by
    cases h
    obtain ⟨h1, -⟩ := apart_head ha
    rw [Nat.add_zero] at hL
    unfold fill
    rw [hL]
    simp only [Bool.false_eq_true, if_false, Nat.add_zero, if_true]
    rw [fill_put r (i + 1) L vals a _ v h1]
    exact fill_congr _ _ _ _ _ _ _ fun k hk => by rw [if_neg (by omega), if_neg (by omega)]; exact ⟨rfl, rfl⟩
  | o' :: r, i, j + 1, o, L, vals, a, v, ha, h, hL => by
    obtain ⟨-, h2⟩ := apart_head ha
    unfold fill
    have hi : (i = i + (j + 1)) = False := by simp
    simp only [hi, if_false]
    rw [show i + (j + 1) = i + 1 + j from by omega] at hL ⊢
    exact fill_set r (i + 1) j o L vals _ v h2 h hL
theorem put_size (a : Act) (d : Option Tmp) (v : Value) : (a.put d v).tmps.size = a.tmps.size := by cases d <;> simp [Act.put]
theorem fill_eval_other : ∀ (l : List Oper) (i : Nat) (L : Nat → Bool) (vals : Nat → Value) (a : Act) (t : Tmp), (∀ o, o ∈ l → o.dst ≠ some t) → (fill l i L vals a).eval (.tmp t) = a.eval (.tmp t)
  | [], _, _, _, _, _, _ => rfl
  | o :: r, i, L, vals, a, t, h => by
    unfold fill
    rw [fill_eval_other r (i + 1) L vals _ t fun o' ho => h o' (List.mem_cons.2 (Or.inr ho))]
    split
    · exact Act.eval_put fun d hd he => h o (List.mem_cons.2 (Or.inl rfl)) (by injection he with he; rw [hd, he])
    · rfl
theorem fill_eval : ∀ (l : List Oper) (i j : Nat) (o : Oper) (d : Tmp) (L : Nat → Bool) (vals : Nat → Value) (a : Act), apartB l = true → l[j]? = some o → o.dst = some d → L (i + j) = true → d < a.tmps.size →
    (fill l i L vals a).eval (.tmp d) = vals (i + j)
  | [], _, _, _, _, _, _, _, _, h, _, _, _ => by cases h
  | o' :: r, i, 0, o, d, L, vals, a, ha, h, hd, hL, hs => by
    cases h
    obtain ⟨h1, -⟩ := apart_head ha
    rw [Nat.add_zero] at hL ⊢
    unfold fill
    rw [hL, if_pos rfl, fill_eval_other r (i + 1) L vals _ d fun o'' ho he => (h1 o'' ho).elim (fun h => by rw [hd] at h; cases h) (fun h => h (by rw [hd, he]))]
    rw [hd]
    simp [Act.eval, Act.put, hs]
  | o' :: r, i, j + 1, o, d, L, vals, a, ha, h, hd, hL, hs => by
    obtain ⟨-, h2⟩ := apart_head ha
    unfold fill
    rw [show i + (j + 1) = i + 1 + j from by omega] at hL ⊢
    refine fill_eval r (i + 1) j o d L vals _ h2 h hd hL ?_
    split
    · rw [put_size]; exact hs
    · exact hs
/-- operation o waits for operation k, whose result lies in slot d -/
def depB (l : List Oper) (o : Oper) (k : Nat) (d : Tmp) : Bool := (o.after.any fun e => e.on == k && Region.binds .any e) && ((l[k]?).bind (·.dst) == some d)
/-- what is owed for one operation -/
def StepOk (P : Program) (l : List Oper) (keep : List Tmp) (a0 : Act) (T : Nat → Value → World → Prop) (S : World → Prop) (Q : Exit → Act → World → Prop) (i : Nat) (o : Oper) : Prop :=
  ∀ (a : Act) (w : World), S w → (∀ t, t ∈ keep → a.eval (.tmp t) = a0.eval (.tmp t)) → (∀ k d, depB l o k d = true → T k (a.eval (.tmp d)) w) →
    if Region.wanted o (yielded l.toArray a.tmps) then o.wp P a w (fun a' w' => ∃ v, a' = a.put o.dst v ∧ T i v w' ∧ Below w.heap.size w w' ∧ S w') Q else T i undef w
def StepsOk (P : Program) (l : List Oper) (keep : List Tmp) (a0 : Act) (T : Nat → Value → World → Prop) (S : World → Prop) (Q : Exit → Act → World → Prop) : Nat → List Oper → Prop
  | _, [] => True
  | i, o :: r => StepOk P l keep a0 T S Q i o ∧ StepsOk P l keep a0 T S Q (i + 1) r
theorem StepsOk.at {P : Program} {l : List Oper} {keep : List Tmp} {a0 : Act} {T : Nat → Value → World → Prop} {S : World → Prop} {Q : Exit → Act → World → Prop} :
    ∀ {r : List Oper} {i : Nat}, StepsOk P l keep a0 T S Q i r → ∀ {j : Nat} {o : Oper}, r[j]? = some o → StepOk P l keep a0 T S Q (i + j) o
  | [], _, _, _, _, h => by cases h
  | o :: r, i, h, 0, o', h' => by cases h'; exact h.1
  | o :: r, i, h, j + 1, o', h' => by rw [show i + (j + 1) = i + 1 + j from by omega]; exact h.2.at h'
theorem wpAny_inv {P : Program} {md : Region.Mode} {ops : Array Oper} {Q : Exit → Act → World → Prop} (I : Array Bool → Act → World → Prop)
    (hstep : ∀ listed a w i o, ops[i]? = some o → i ∈ Region.ready md ops listed → I listed a w → wpOp P ops Q i (I (listed.setIfInBounds i true)) a w)
    (hdone : ∀ listed a w, Region.ready md ops listed = [] → I listed a w → Q .normal a w) :
    ∀ (fuel : Nat) (listed : Array Bool) (a : Act) (w : World), (listed.toList.filter fun b => !b).length ≤ fuel → listed.size = ops.size → I listed a w → wpAny P md ops Q fuel listed a w
  | 0, listed, a, w, hf, hs, hI => by
    have hr : Region.ready md ops listed = [] := by
      rw [List.eq_nil_iff_forall_not_mem]
      intro j hj
      obtain ⟨h1, o, ho, -⟩ := mem_ready.1 hj
      have hj' : j < listed.size := by rw [hs]; exact (Array.getElem?_eq_some_iff.1 ho).1
      have hm : false ∈ listed.toList.filter fun b => !b := by
        rw [List.mem_filter]
        refine ⟨?_, rfl⟩
        rw [Array.getD_eq_getD_getElem?, Array.getElem?_eq_getElem hj'] at h1
        have h1 : listed[j] = false := h1
        rw [← h1]; simp
      have := List.length_pos_of_mem hm
      omega
    exact ⟨hr, hdone _ _ _ hr hI⟩
  | fuel + 1, listed, a, w, hf, hs, hI => by
    refine ⟨fun hr => hdone _ _ _ hr hI, fun i hi => ?_⟩
    obtain ⟨h1, o, ho, -⟩ := mem_ready.1 hi
    have hj' : i < listed.size := by rw [hs]; exact (Array.getElem?_eq_some_iff.1 ho).1
    refine wpOp_mono (fun a' w' h => ?_) (hstep listed a w i o ho hi hI)
    refine wpAny_inv I hstep hdone fuel _ a' w' ?_ (by simpa using hs) h
    rw [Array.getD_eq_getD_getElem?, Array.getElem?_eq_getElem hj'] at h1
    have h1 : listed[i] = false := h1
    rw [Array.toList_setIfInBounds]
    have key : ∀ (l : List Bool) (i : Nat), l[i]? = some false → ((l.set i true).filter fun b => !b).length + 1 = (l.filter fun b => !b).length := by
      intro l
      induction l with
      | nil => intro i h; cases h
      | cons b l ih =>
        intro i h
        cases i with
        | zero => cases h; simp
        | succ i => have := ih i h; cases b <;> simp at this ⊢ <;> omega
    have := key listed.toList i (by rw [Array.getElem?_toList, Array.getElem?_eq_getElem hj', h1])
    omega
/-- every edge leads back -/
def backB : List Oper → Nat → Bool
  | [], _ => true
  | o :: r, i => (o.after.all fun e => decide (e.on < i)) && backB r (i + 1)
theorem backB_at : ∀ {l : List Oper} {i : Nat}, backB l i = true → ∀ {j : Nat} {o : Oper}, l[j]? = some o → ∀ e, e ∈ o.after → e.on < i + j
  | [], _, _, _, _, h => by cases h
  | o :: r, i, h, 0, o', h' => by
    cases h'
    unfold backB at h
    rw [Bool.and_eq_true] at h
    intro e he
    have := Array.all_eq_true'.1 h.1 e he
    simpa using this
  | o :: r, i, h, j + 1, o', h' => by
    unfold backB at h
    rw [Bool.and_eq_true] at h
    intro e he
    have := backB_at h.2 h' e he
    omega
theorem all_listed {l : List Oper} {listed : Array Bool} (hb : backB l 0 = true) (hr : Region.ready .any l.toArray listed = []) (hs : listed.size = l.length) : ∀ k, k < l.length → listed.getD k false = true := by
  intro k
  induction k using Nat.strongRecOn with
  | _ k ih =>
    intro hk
    cases hl : listed.getD k false with
    | true => rfl
    | false =>
      exfalso
      have hm : k ∈ Region.ready .any l.toArray listed := by
        refine mem_ready.2 ⟨?_, l[k], by simp [hk], fun e he _ => ?_⟩
        · rw [Array.getD_eq_getD_getElem?, Array.getElem?_eq_getElem (by omega)] at hl ⊢; exact hl
        · have := backB_at hb (List.getElem?_eq_getElem hk) e he
          exact ih e.on (by omega) (by omega)
      rw [hr] at hm; cases hm
theorem pay_plain {P : Program} {l : List Oper} {o : Oper} {a : Act} {w : World} {R : Act → World → Prop} {Q : Exit → Act → World → Prop} {X : Prop} (hg : o.guard = none) (h : o.wp P a w R Q) :
    if Region.wanted o (yielded l.toArray a.tmps) = true then o.wp P a w R Q else X := by
  rw [if_pos (by simp [Region.wanted, hg])]; exact h
end Go.Proofs.YtmjnbapkpcfgcaaGreatDoor
namespace Go.Proofs.YtmjnbapkpcfgcaaGreatDoor
open Go.RowKit
/-- operation j waits for operation i -/
def waitsB (l : List Oper) (j i : Nat) : Bool := match l[j]? with
  | some o => o.after.any fun e => e.on == i && Region.binds .any e
  | none => false
/-- what is owed for one operation -/
def StepOn (P : Program) (l : List Oper) (keep : List Tmp) (a0 : Act) (T : Nat → Value → World → Prop) (R : World → World → Prop) (S : (Nat → Bool) → World → Prop) (Q : Exit → Act → World → Prop) (i : Nat) (o : Oper) : Prop :=
  ∀ (L : Nat → Bool) (a : Act) (w : World), L i = false → (∀ j, waitsB l j i = true → L j = false) → S L w → (∀ t, t ∈ keep → a.eval (.tmp t) = a0.eval (.tmp t)) → (∀ k d, depB l o k d = true → T k (a.eval (.tmp d)) w) →
    if Region.wanted o (yielded l.toArray a.tmps) then o.wp P a w (fun a' w' => ∃ v, a' = a.put o.dst v ∧ T i v w' ∧ R w w' ∧ S (fun k => if k = i then true else L k) w') Q else T i undef w ∧ R w w ∧ S (fun k => if k = i then true else L k) w
def StepsOn (P : Program) (l : List Oper) (keep : List Tmp) (a0 : Act) (T : Nat → Value → World → Prop) (R : World → World → Prop) (S : (Nat → Bool) → World → Prop) (Q : Exit → Act → World → Prop) : Nat → List Oper → Prop
  | _, [] => True
  | i, o :: r => StepOn P l keep a0 T R S Q i o ∧ StepsOn P l keep a0 T R S Q (i + 1) r
theorem StepsOn.at {P : Program} {l : List Oper} {keep : List Tmp} {a0 : Act} {T : Nat → Value → World → Prop} {R : World → World → Prop} {S : (Nat → Bool) → World → Prop} {Q : Exit → Act → World → Prop} :
    ∀ {r : List Oper} {i : Nat}, StepsOn P l keep a0 T R S Q i r → ∀ {j : Nat} {o : Oper}, r[j]? = some o → StepOn P l keep a0 T R S Q (i + j) o
  | [], _, _, _, _, h => by cases h
  | o :: r, i, h, 0, o', h' => by cases h'; exact h.1
  | o :: r, i, h, j + 1, o', h' => by rw [show i + (j + 1) = i + 1 + j from by omega]; exact h.2.at h'
/-- THE LAW. -/
theorem wp_region_on {P : Program} {id : Nat} {l : List Oper} {a0 : Act} {w0 : World} {Q : Exit → Act → World → Prop} (hm : P.follows .mixedOrders = true) (keep : List Tmp) (T : Nat → Value → World → Prop) (R : World → World → Prop) (S : (Nat → Bool) → World → Prop)
    (hap : apartB l = true) (hkeep : (keep.all fun t => l.all fun o => o.dst != some t) = true) (hsz : (l.all fun o => match o.dst with | some d => decide (d < a0.tmps.size) | none => true) = true)
    (hback : backB l 0 = true)
    (hmono : ∀ k v w w', R w w' → T k v w → T k v w') (hS : S (fun _ => false) w0.drew)
    (hsteps : StepsOn P l keep a0 T R S Q 0 l)
    (hdone : ∀ (vals : Nat → Value) (w : World), (∀ k, k < l.length → T k (vals k) w) → (∃ L : Nat → Bool, (∀ k, k < l.length → L k = true) ∧ S L w) → Q .normal (fill l 0 (fun _ => true) vals a0) w) :
    (Code.region id l.toArray true).wp P Q a0 w0 := by
  refine wp_region_any hm ?_
  refine wpAny_inv (fun listed a w => listed.size = l.length ∧ ∃ vals : Nat → Value, a = fill l 0 (fun k => listed.getD k false) vals a0 ∧ (∀ k, listed.getD k false = true → T k (vals k) w) ∧ S (fun k => listed.getD k false) w ∧ ∀ j i, waitsB l j i = true → listed.getD j false = true → listed.getD i false = true) ?_ ?_ _ _ _ _ ?_ (by simp) ?_
  · rintro listed a w i o ho hi ⟨hls, vals, rfl, hT, hSw, hcl⟩
    obtain ⟨h1, o', ho', hdeps⟩ := mem_ready.1 hi
    rw [ho] at ho'; cases ho'
    have ho2 : l[i]? = some o := by simpa using ho
    have hil : i < l.length := (List.getElem?_eq_some_iff.1 ho2).1
    have h1' : listed.getD i false = false := by
      rw [Array.getD_eq_getD_getElem?, Array.getElem?_eq_getElem (by omega)] at h1 ⊢; exact h1
    have hst := hsteps.at ho2 (fun k => listed.getD k false) (fill l 0 (fun k => listed.getD k false) vals a0) w (by rw [Nat.zero_add]; exact h1')
      (fun j hj => by
        rw [Nat.zero_add] at hj
        cases hlj : listed.getD j false with
        | false => rfl
        | true => rw [hcl j i hj hlj] at h1'; cases h1')
      hSw
      (fun t ht => fill_eval_other l 0 _ vals a0 t fun o'' ho'' he => by
        have := List.all_eq_true.1 (List.all_eq_true.1 hkeep t ht) o'' ho''
        rw [he] at this; simp at this)
      (fun k d hd => by
        unfold depB at hd
        rw [Bool.and_eq_true] at hd
        obtain ⟨e, he, hek⟩ := Array.any_eq_true'.1 hd.1
        rw [Bool.and_eq_true, beq_iff_eq] at hek
        have hlk := hdeps e he hek.2
        rw [hek.1] at hlk
        have hd2 : (l[k]?).bind (·.dst) = some d := by simpa using hd.2
        obtain ⟨ok, hok, hdk⟩ := Option.bind_eq_some_iff.1 hd2
        have hds : d < a0.tmps.size := by
          have := List.all_eq_true.1 hsz ok (List.mem_of_getElem? hok)
          rw [hdk] at this; simpa using this
        rw [fill_eval l 0 k ok d _ vals a0 hap hok hdk (by rw [Nat.zero_add]; exact hlk) hds, Nat.zero_add]
        exact hT k hlk)
    rw [Nat.zero_add] at hst
    have hL : (fun k => if k = i then true else listed.getD k false) = fun k => (listed.setIfInBounds i true).getD k false := by
      funext k
      by_cases hk : k = i
      · subst hk
        rw [if_pos rfl, Array.getD_eq_getD_getElem?, Array.getElem?_setIfInBounds_self_of_lt (by omega)]; rfl
      · rw [if_neg hk, getD_set_ne false (by omega)]
    have hcl' : ∀ j k, waitsB l j k = true → (listed.setIfInBounds i true).getD j false = true → (listed.setIfInBounds i true).getD k false = true := by
      intro j k hjk hj
      by_cases hji : j = i
      · subst hji
        unfold waitsB at hjk
        rw [ho2] at hjk
        obtain ⟨e, he, hek⟩ := Array.any_eq_true'.1 hjk
        rw [Bool.and_eq_true, beq_iff_eq] at hek
        have := hdeps e he hek.2
        rw [hek.1] at this
        exact getD_set_true this
      · rw [getD_set_ne false (by omega)] at hj
        exact getD_set_true (hcl j k hjk hj)
    have next : ∀ (v : Value) (w' : World), T i v w' → R w w' → S (fun k => if k = i then true else listed.getD k false) w' → (listed.setIfInBounds i true).size = l.length ∧ ∃ vals' : Nat → Value, (fill l 0 (fun k => listed.getD k false) vals a0).put o.dst v = fill l 0 (fun k => (listed.setIfInBounds i true).getD k false) vals' a0 ∧ (∀ k, (listed.setIfInBounds i true).getD k false = true → T k (vals' k) w') ∧ S (fun k => (listed.setIfInBounds i true).getD k false) w' ∧ ∀ j k, waitsB l j k = true → (listed.setIfInBounds i true).getD j false = true → (listed.setIfInBounds i true).getD k false = true := by
      intro v w' hTv hb hS'
      rw [hL] at hS'
      refine ⟨by simpa using hls, fun k => if k = 0 + i then v else vals k, ?_, ?_, hS', hcl'⟩
      · rw [fill_set l 0 i o _ vals a0 v hap ho2 (by rw [Nat.zero_add]; exact h1')]
        refine fill_congr _ _ _ _ _ _ _ fun k _ => ⟨?_, rfl⟩
        by_cases hk : k = i
        · subst hk
          rw [if_pos (by omega), Array.getD_eq_getD_getElem?, Array.getElem?_setIfInBounds_self_of_lt (by omega)]; rfl
        · rw [if_neg (by omega), getD_set_ne false (by omega)]
      · intro k hk
        by_cases hki : k = i
        · subst hki; simp only [Nat.zero_add, if_true]; exact hTv
        · simp only [Nat.zero_add, hki, if_false]
          rw [getD_set_ne false (by omega)] at hk
          exact hmono k _ w w' hb (hT k hk)
    unfold wpOp
    simp only [ho]
    split
    · rename_i hw
      rw [if_pos hw] at hst
      refine .inl (Oper.wp_mono ?_ hst)
      rintro a' w' ⟨v, rfl, hTv, hb, hS'⟩
      exact next v w' hTv hb hS'
    · rename_i hw
      rw [if_neg hw] at hst
      exact next undef w hst.1 hst.2.1 hst.2.2
  · rintro listed a w hr ⟨hls, vals, rfl, hT, hSw, hcl⟩
    have hall := all_listed hback hr hls
    have e : fill l 0 (fun k => listed.getD k false) vals a0 = fill l 0 (fun _ => true) vals a0 := by
      have go : ∀ (r : List Oper) (i : Nat) (a : Act), i + r.length = l.length → fill r i (fun k => listed.getD k false) vals a = fill r i (fun _ => true) vals a := by
        intro r
        induction r with
        | nil => intro i a _; rfl
        | cons o r ih =>
          intro i a h
          simp only [List.length_cons] at h
          have hi := hall i (by omega)
          unfold fill
          simp only [hi]
          exact ih (i + 1) _ (by omega)
      exact go l 0 a0 (by omega)
    rw [e]
    exact hdone vals w (fun k hk => hT k (hall k hk)) ⟨_, hall, hSw⟩
  · simp [List.filter_eq_self.2]
  · have hfalse : (fun k => (Array.replicate l.toArray.size false).getD k false) = fun _ => false := by
      funext k; rw [Array.getD_eq_getD_getElem?, Array.getElem?_replicate]; split <;> rfl
    refine ⟨by simp, fun _ => undef, ?_, fun k hk => ?_, by rw [hfalse]; exact hS, fun j i _ hj => ?_⟩
    · have go : ∀ (r : List Oper) (i : Nat) (a : Act), fill r i (fun k => (Array.replicate l.toArray.size false).getD k false) (fun _ => undef) a = a := by
        intro r
        induction r with
        | nil => intro i a; rfl
        | cons o r ih =>
          intro i a
          unfold fill
          have hf : (Array.replicate l.toArray.size false).getD i false = false := by
            rw [Array.getD_eq_getD_getElem?, Array.getElem?_replicate]; split <;> rfl
          simp only [hf, Bool.false_eq_true, if_false]
          exact ih (i + 1) a
      exact (go l 0 a0).symm
    · have hf : (Array.replicate l.toArray.size false).getD k false = false := by
        rw [Array.getD_eq_getD_getElem?, Array.getElem?_replicate]; split <;> rfl
      rw [hf] at hk; cases hk
    · have hf : (Array.replicate l.toArray.size false).getD j false = false := by
        rw [Array.getD_eq_getD_getElem?, Array.getElem?_replicate]; split <;> rfl
      rw [hf] at hj; cases hj

theorem on_value {P : Program} {o : Oper} {a : Act} {w : World} {T : Nat → Value → World → Prop} {i : Nat} {R : World → World → Prop} {S : World → Prop} {Q : Exit → Act → World → Prop} (v : Value) (hv : (execOp a.eval o).run P w = .ok (.value v) w) (hT : T i v w) (hR : R w w) (hS : S w) :
    o.wp P a w (fun a' w' => ∃ v, a' = a.put o.dst v ∧ T i v w' ∧ R w w' ∧ S w') Q := by
  unfold Oper.wp
  rw [hv]
  exact ⟨v, rfl, hT, hR, hS⟩
theorem on_skip {P : Program} {o : Oper} {a : Act} {w w' : World} {T : Nat → Value → World → Prop} {i : Nat} {R : World → World → Prop} {S : World → Prop} {Q : Exit → Act → World → Prop} (hv : (execOp a.eval o).run P w = .ok .skip w') (hT : T i undef w') (hR : R w w') (hS : S w') :
    o.wp P a w (fun a' w' => ∃ v, a' = a.put o.dst v ∧ T i v w' ∧ R w w' ∧ S w') Q := by
  unfold Oper.wp
  rw [hv]
  exact ⟨undef, rfl, hT, hR, hS⟩
end Go.Proofs.YtmjnbapkpcfgcaaGreatDoor
namespace Go.Proofs.YtmjnbapkpcfgcaaGreatDoor
/-- An item: its kind, the number of its kids, its rule, the four words of its set. -/
structure PI where
  op : Int
  kids : Int
  rule : Int
  s0 : Int
  s1 : Int
  s2 : Int
  s3 : Int
/-- A rule with its items. -/
structure PQ where
  name : ByteArray
  items : List PI
theorem PI.eq_iff (n m : PI) : (n.op = m.op ∧ n.kids = m.kids ∧ n.rule = m.rule ∧ n.s0 = m.s0 ∧ n.s1 = m.s1 ∧ n.s2 = m.s2 ∧ n.s3 = m.s3) ↔ n = m := by
  cases n; cases m; simp
instance : DecidableEq PI := fun n m => decidable_of_iff _ (PI.eq_iff n m)
theorem PQ.eq_iff (n m : PQ) : (n.name = m.name ∧ n.items = m.items) ↔ n = m := by
  cases n; cases m; simp
instance : DecidableEq PQ := fun n m => decidable_of_iff _ (PQ.eq_iff n m)
def PI.node (x : PI) (ks : List Int) : PN := ⟨x.op, ks, x.rule, x.s0, x.s1, x.s2, x.s3⟩
/-- The index before kid p of node i, and behind the last kid the one before the node. -/
def upto (e : Int) (ks : List Int) (p : Nat) : Int := if p = 0 then e else ks.getD (p - 1) 0
end Go.Proofs.YtmjnbapkpcfgcaaGreatDoor
namespace Go.Proofs.YtmjnbapkpcfgcaaGreatDoor
theorem nextL_ok {l : List Nat} {p : Nat} {y : Tok × Nat} (h : nextL l p = .ok y) : (skipL (l.drop p)).2 = true ∧ tokL (p + (skipL (l.drop p)).1) (l.drop (p + (skipL (l.drop p)).1)) = some y := by
  unfold nextL at h
  split at h
  · rename_i h1
    refine ⟨h1, ?_⟩
    cases hh : tokL (p + (skipL (l.drop p)).1) (l.drop (p + (skipL (l.drop p)).1)) with
    | none => rw [hh] at h; cases h
    | some x => rw [hh] at h; cases h; rfl
  · cases h
/-- A token moved. -/
def shT (d : Nat) (t : Tok) : Tok := ⟨t.kind, t.at_ + d, t.text, t.rs⟩
def sh1 (d : Nat) (y : Tok × Nat) : Tok × Nat := (shT d y.1, y.2 + d)
theorem tokL_shift (d k : Nat) (l : List Nat) : tokL (k + d) l = (tokL k l).map (sh1 d) := by
  cases l with
  | nil => rfl
  | cons c r =>
    cases hl : letB c true
    · by_cases ha : c = 60 ∧ r.head? = some 45
      · rw [tokL_arrow hl ha, tokL_arrow hl ha]
        show some _ = some (_, k + 2 + d)
        rw [show k + d + 2 = k + 2 + d by omega]; rfl
      · cases hs : signK c with
        | some i =>
          rw [tokL_sign hl ha hs, tokL_sign hl ha hs]
          show some _ = some (_, k + 1 + d)
          rw [show k + d + 1 = k + 1 + d by omega]; rfl
        | none =>
          by_cases h91 : c = 91
          · subst h91
            rw [tokL_cls, tokL_cls]
            cases clsL r with
            | none => rfl
            | some x =>
              show some ((⟨13, k + d, [], x.1⟩ : Tok), k + d + 1 + x.2) = some (_, k + 1 + x.2 + d)
              rw [show k + d + 1 + x.2 = k + 1 + x.2 + d by omega]; rfl
          · by_cases hq : c = 39 ∨ c = 34
            · rw [tokL_lit hq, tokL_lit hq]
              cases litE c r with
              | none => rfl
              | some x =>
                show some ((⟨12, k + d, x.1, []⟩ : Tok), k + d + 1 + x.2) = some (_, k + 1 + x.2 + d)
                rw [show k + d + 1 + x.2 = k + 1 + x.2 + d by omega]; rfl
            · rw [tokL_bad hl ha hs h91 hq, tokL_bad hl ha hs h91 hq]; rfl
    · rw [tokL_id hl, tokL_id hl]
      show some _ = some (_, k + idL true (c :: r) + d)
      rw [show k + d + idL true (c :: r) = k + idL true (c :: r) + d by omega]; rfl
theorem nextL_shift {u r : List Nat} {p : Nat} {t : Tok} {n : Nat} (h : nextL r p = .ok (t, n)) : nextL (u ++ r) (u.length + p) = .ok (shT u.length t, u.length + n) := by
  obtain ⟨h1, h2⟩ := nextL_ok h
  have hd : ∀ j, (u ++ r).drop (u.length + j) = r.drop j := fun j => by
    rw [List.drop_append, List.drop_eq_nil_of_le (by omega)]
    simp
  unfold nextL
  rw [hd p, h1, if_pos rfl, Nat.add_assoc, hd, Nat.add_comm u.length, tokL_shift, h2]
  show Except.ok (shT u.length t, n + u.length) = _
  rw [Nat.add_comm n]
theorem toksL_shift {u r : List Nat} : ∀ (n p : Nat) (ts : List Tok), r.length - p ≤ n → p ≤ r.length → toksL r p = .ok ts → toksL (u ++ r) (u.length + p) = .ok (ts.map (shT u.length)) := by
  intro n
  induction n with
  | zero =>
    intro p ts hn hp h
    cases hx : nextL r p with
    | error k => rw [toksL_bad hx] at h; cases h
    | ok y =>
      obtain ⟨t, m⟩ := y
      have hm := nextL_moves r p hp t m hx
      have ht : t.kind = 0 := by
        rcases hm with h | h
        · exact h.1
        · omega
      rw [toksL_end hx ht] at h
      cases h
      rw [toksL_end (nextL_shift hx) ht]; rfl
  | succ n ih =>
    intro p ts hn hp h
    cases hx : nextL r p with
    | error k => rw [toksL_bad hx] at h; cases h
    | ok y =>
      obtain ⟨t, m⟩ := y
      have hm := nextL_moves r p hp t m hx
      by_cases ht : t.kind = 0
      · rw [toksL_end hx ht] at h
        cases h
        rw [toksL_end (nextL_shift hx) ht]; rfl
      · have hmv : p < m ∧ m ≤ r.length := by
          rcases hm with h | h
          · exact absurd h.1 ht
          · exact h.2
        rw [toksL_step hx ht hmv] at h
        cases hq : toksL r m with
        | error k => rw [hq] at h; cases h
        | ok ts' =>
          rw [hq] at h
          cases h
          rw [toksL_step (nextL_shift hx) ht ⟨by omega, by rw [List.length_append]; omega⟩, ih m ts' (by omega) hmv.2 hq]; rfl
end Go.Proofs.YtmjnbapkpcfgcaaGreatDoor
