/- Characters of grammar files as plain functions on lists of bytes: what a backslash and what follows it stand for. No walk, no program. -/
namespace Go.Proofs.Ytklimoepkifnhaa
/-- The bytes of a string. -/
def bts (s : ByteArray) : List Nat := s.data.toList.map UInt8.toNat
theorem bts_length (s : ByteArray) : (bts s).length = s.size := by unfold bts; rw [List.length_map]; exact Array.length_toList
theorem bts_lt (s : ByteArray) : ∀ x, x ∈ bts s → x < 256 := by
  intro x hx
  unfold bts at hx
  obtain ⟨u, -, rfl⟩ := List.mem_map.1 hx
  exact u.toNat_lt
theorem bts_at (s : ByteArray) (k : Nat) (h : k < s.size) : (bts s)[k]? = some (s[k].toNat) := by
  unfold bts
  rw [List.getElem?_map, List.getElem?_eq_getElem (by rw [Array.length_toList]; exact h)]
  rfl
theorem bts_drop (s : ByteArray) (k : Nat) (h : k < s.size) : (bts s).drop k = s[k].toNat :: (bts s).drop (k + 1) := by
  rw [List.drop_eq_getElem_cons (by rw [bts_length]; exact h)]
  congr 1
  have := bts_at s k h
  rw [List.getElem?_eq_getElem (by rw [bts_length]; exact h)] at this
  exact Option.some.inj this
theorem bts_cons (s : ByteArray) (h : 0 < s.size) : bts s = s[0].toNat :: (bts s).drop 1 := bts_drop s 0 h
theorem bts_extract (s : ByteArray) (i j : Nat) : bts (s.extract i j) = ((bts s).drop i).take (j - i) := by
  unfold bts
  rw [ByteArray.data_extract, Array.toList_extract, List.extract_eq_take_drop, List.map_take, List.map_drop]
theorem bts_append (a b : ByteArray) : bts (a ++ b) = bts a ++ bts b := by
  unfold bts
  rw [ByteArray.data_append, Array.toList_append, List.map_append]
theorem bts_inj {a b : ByteArray} (h : bts a = bts b) : a = b := by
  unfold bts at h
  have h2 : a.data.toList = b.data.toList := by
    have := congrArg (List.map UInt8.ofNat) h
    simpa [List.map_map, Function.comp_def] using this
  cases a; cases b
  congr 1
  exact Array.toList_inj.1 h2
/-- the string of the bytes l -/
def strOf (l : List Nat) : ByteArray := ⟨(l.map UInt8.ofNat).toArray⟩
theorem bts_strOf (l : List Nat) (h : ∀ x, x ∈ l → x < 256) : bts (strOf l) = l := by
  unfold bts strOf
  simp only [List.map_map]
  conv => rhs; rw [← List.map_id l]
  refine List.map_congr_left fun x hx => ?_
  have := h x hx
  simp; omega
theorem strOf_bts (s : ByteArray) : strOf (bts s) = s := bts_inj (bts_strOf _ (bts_lt s))
theorem strOf_append (a b : List Nat) : strOf (a ++ b) = strOf a ++ strOf b := by
  unfold strOf
  apply ByteArray.ext
  rw [ByteArray.data_append]
  simp
theorem strOf_size (a : List Nat) : (strOf a).size = a.length := by unfold strOf; show ((a.map UInt8.ofNat).toArray).size = a.length; simp
def oct (d : Nat) : Bool := decide (48 ≤ d ∧ d ≤ 55)
/-- Reading digits to the base 8, from what has been read on. -/
def numF : Nat → Nat → List Nat → Nat × Nat
  | c, n, [] => (c, n)
  | c, n, d :: r => if oct d then numF (c * 8 + d - 48) (n + 1) r else (c, n)
/-- What follows a backslash: the byte, and how many bytes tell it (0: none). -/
def esc : List Nat → Nat × Nat
  | [] => (0, 0)
  | d :: r =>
    if d = 110 then (10, 1) else if d = 114 then (13, 1) else if d = 116 then (9, 1)
    else if d = 39 ∨ d = 34 ∨ d = 91 ∨ d = 93 ∨ d = 92 then (d, 1)
    else if d = 48 ∨ d = 49 ∨ d = 50 then numF 0 0 ((d :: r).take 3)
    else if d = 51 ∨ d = 52 ∨ d = 53 ∨ d = 54 ∨ d = 55 then numF 0 0 ((d :: r).take 2) else (0, 0)
theorem esc_cons (d : Nat) (r : List Nat) : esc (d :: r) =
    if d = 110 then (10, 1) else if d = 114 then (13, 1) else if d = 116 then (9, 1)
    else if d = 39 ∨ d = 34 ∨ d = 91 ∨ d = 93 ∨ d = 92 then (d, 1)
    else if d = 48 ∨ d = 49 ∨ d = 50 then numF 0 0 ((d :: r).take 3)
    else if d = 51 ∨ d = 52 ∨ d = 53 ∨ d = 54 ∨ d = 55 then numF 0 0 ((d :: r).take 2) else (0, 0) := rfl
/-- The character at the head of a list: its byte, and its length. -/
def rdl : List Nat → Option (Nat × Nat)
  | [] => none
  | d :: r => if d = 92 then (if (esc r).2 = 0 then none else some ((esc r).1, 1 + (esc r).2)) else some (d, 1)
theorem rdl_esc (r : List Nat) : rdl (92 :: r) = if (esc r).2 = 0 then none else some ((esc r).1, 1 + (esc r).2) := rfl
theorem rdl_plain (d : Nat) (r : List Nat) (h : d ≠ 92) : rdl (d :: r) = some (d, 1) := by unfold rdl; simp only [if_neg h]
/-- The character at an index. -/
def rd (l : List Nat) (p : Int) : Option (Nat × Nat) := if p < 0 then none else rdl (l.drop p.toNat)
theorem rd_neg (l : List Nat) (p : Int) (h : p < 0) : rd l p = none := by unfold rd; rw [if_pos h]
theorem rd_nat (l : List Nat) (p : Nat) : rd l (p : Int) = rdl (l.drop p) := by unfold rd; rw [if_neg (by omega)]; rfl
theorem rd_high (l : List Nat) (p : Nat) (h : l.length ≤ p) : rd l (p : Int) = none := by rw [rd_nat, List.drop_eq_nil_of_le h]; rfl
/-- Some digits to the base 8, the first one at most mx. -/
def dg (l : List Nat) (m mx : Nat) : Bool := decide (m ≤ l.length) && (decide (48 ≤ l.headD 0 ∧ l.headD 0 ≤ mx) && (l.take m).all oct)
theorem numF_one (a : Nat) (ha : oct a = true) : numF 0 0 [a] = (a - 48, 1) := by
  show (if oct a then numF (0 * 8 + a - 48) (0 + 1) [] else (0, 0)) = _
  rw [if_pos ha]
  show (0 * 8 + a - 48, 0 + 1) = _
  congr 1; omega
theorem numF_no (a : Nat) (r : List Nat) (ha : oct a = false) (c n : Nat) : numF c n (a :: r) = (c, n) := by
  show (if oct a then _ else (c, n)) = _
  rw [if_neg (by rw [ha]; decide)]
theorem numF_yes (a : Nat) (r : List Nat) (ha : oct a = true) (c n : Nat) : numF c n (a :: r) = numF (c * 8 + a - 48) (n + 1) r := by
  show (if oct a then _ else (c, n)) = _
  rw [if_pos ha]
theorem numF_bounds : ∀ (l : List Nat) (c n : Nat), n ≤ (numF c n l).2 ∧ (numF c n l).2 ≤ n + l.length
  | [], c, n => ⟨Nat.le_refl _, Nat.le_refl _⟩
  | d :: r, c, n => by
    unfold numF
    split
    · have := numF_bounds r (c * 8 + d - 48) (n + 1)
      rw [List.length_cons]
      omega
    · rw [List.length_cons]; exact ⟨Nat.le_refl _, by omega⟩
theorem esc_len (l : List Nat) : (esc l).2 ≤ l.length := by
  cases l with
  | nil => exact Nat.le_refl _
  | cons d r =>
    rw [esc_cons]
    have h3 := (numF_bounds ((d :: r).take 3) 0 0).2
    have h2 := (numF_bounds ((d :: r).take 2) 0 0).2
    generalize numF 0 0 ((d :: r).take 3) = x at h3
    generalize numF 0 0 ((d :: r).take 2) = y at h2
    rw [List.length_take, List.length_cons] at h3 h2
    rw [List.length_cons]
    repeat' split
    all_goals omega
theorem rdl_len (l : List Nat) (c n : Nat) (h : rdl l = some (c, n)) : 1 ≤ n ∧ n ≤ l.length := by
  cases l with
  | nil => cases h
  | cons d r =>
    rw [List.length_cons]
    by_cases hd : d = 92
    · subst hd
      rw [rdl_esc] at h
      have := esc_len r
      by_cases h0 : (esc r).2 = 0
      · rw [if_pos h0] at h; cases h
      · rw [if_neg h0] at h
        obtain ⟨-, rfl⟩ := Prod.mk.inj (Option.some.inj h)
        omega
    · rw [rdl_plain d r hd] at h
      obtain ⟨-, rfl⟩ := Prod.mk.inj (Option.some.inj h)
      omega
theorem oct_iff (d : Nat) : oct d = true ↔ (48 ≤ d ∧ d ≤ 55) := by unfold oct; simp
theorem oct_no (d : Nat) : oct d = false ↔ ¬ (48 ≤ d ∧ d ≤ 55) := by unfold oct; simp
/-- What the reference does behind a backslash, in its order. -/
theorem esc_dg (c : Nat) (r : List Nat) (h1 : c ≠ 110) (h2 : c ≠ 114) (h3 : c ≠ 116) (h4 : ¬ (c = 39 ∨ c = 34 ∨ c = 91 ∨ c = 93 ∨ c = 92)) :
    esc (c :: r) = if dg (c :: r) 3 50 = true then (64 * (c - 48) + 8 * (r.getD 0 0 - 48) + (r.getD 1 0 - 48), 3)
      else if dg (c :: r) 2 55 = true then (8 * (c - 48) + (r.getD 0 0 - 48), 2)
      else if dg (c :: r) 1 55 = true then (c - 48, 1) else (0, 0) := by
  rw [esc_cons, if_neg h1, if_neg h2, if_neg h3, if_neg h4]
  by_cases hc : oct c = true
  · have hc' := (oct_iff c).1 hc
    match r with
    | [] =>
      have e3 : dg [c] 3 50 = false := by unfold dg; simp
      have e2 : dg [c] 2 55 = false := by unfold dg; simp
      have e1 : dg [c] 1 55 = true := by unfold dg; simp [hc, hc']
      rw [e3, e2, e1]
      have t3 : [c].take 3 = [c] := rfl
      have t2 : [c].take 2 = [c] := rfl
      rw [t3, t2, numF_one c hc]
      split
      · rfl
      · rw [if_pos (by omega)]; rfl
    | [a] =>
      have e3 : dg [c, a] 3 50 = false := by unfold dg; simp
      have e1 : dg [c, a] 1 55 = true := by unfold dg; simp [hc, hc']
      have t3 : [c, a].take 3 = [c, a] := rfl
      have t2 : [c, a].take 2 = [c, a] := rfl
      rw [e3, e1, t3, t2, numF_yes c [a] hc]
      cases ha : oct a
      · have e2 : dg [c, a] 2 55 = false := by unfold dg; simp [ha]
        rw [numF_no a [] ha, e2]
        split
        · simp
        · rw [if_pos (by omega)]; simp
      · have e2 : dg [c, a] 2 55 = true := by unfold dg; simp [ha, hc, hc']
        have ha' := (oct_iff a).1 ha
        rw [numF_yes a [] ha, e2]
        have : numF ((0 * 8 + c - 48) * 8 + a - 48) (0 + 1 + 1) [] = (8 * (c - 48) + (a - 48), 2) := by unfold numF; congr 1; omega
        rw [this]
        split
        · simp
        · rw [if_pos (by omega)]; simp
    | a :: b :: r' =>
      have e1 : dg (c :: a :: b :: r') 1 55 = true := by unfold dg; simp [hc, hc']
      have t3 : (c :: a :: b :: r').take 3 = [c, a, b] := rfl
      have t2 : (c :: a :: b :: r').take 2 = [c, a] := rfl
      rw [e1, t3, t2, numF_yes c [a, b] hc, numF_yes c [a] hc]
      cases ha : oct a
      · have e3 : dg (c :: a :: b :: r') 3 50 = false := by unfold dg; simp [ha]
        have e2 : dg (c :: a :: b :: r') 2 55 = false := by unfold dg; simp [ha]
        rw [numF_no a _ ha, numF_no a _ ha, e3, e2]
        split
        · simp
        · rw [if_pos (by omega)]; simp
      · have e2 : dg (c :: a :: b :: r') 2 55 = true := by unfold dg; simp [ha, hc, hc']
        have ha' := (oct_iff a).1 ha
        rw [numF_yes a _ ha, numF_yes a _ ha, e2]
        have t : numF ((0 * 8 + c - 48) * 8 + a - 48) (0 + 1 + 1) [] = (8 * (c - 48) + (a - 48), 2) := by unfold numF; congr 1; omega
        rw [t]
        cases hb : oct b
        · have e3 : dg (c :: a :: b :: r') 3 50 = false := by unfold dg; simp [hb]
          rw [numF_no b _ hb, e3]
          have : ((0 * 8 + c - 48) * 8 + a - 48, 0 + 1 + 1) = (8 * (c - 48) + (a - 48), 2) := by congr 1; omega
          rw [this]
          split
          · simp
          · rw [if_pos (by omega)]; simp
        · have hb' := (oct_iff b).1 hb
          rw [numF_yes b _ hb]
          have t : numF (((0 * 8 + c - 48) * 8 + a - 48) * 8 + b - 48) (0 + 1 + 1 + 1) [] = (64 * (c - 48) + 8 * (a - 48) + (b - 48), 3) := by unfold numF; congr 1; omega
          rw [t]
          by_cases h50 : c ≤ 50
          · have e3 : dg (c :: a :: b :: r') 3 50 = true := by unfold dg; simp [hb, ha, hc]; omega
            rw [e3, if_pos (by omega)]; simp
          · have e3 : dg (c :: a :: b :: r') 3 50 = false := by unfold dg; simp; omega
            rw [e3, if_neg (by omega), if_pos (by omega)]; simp
  · have hc' : oct c = false := by simpa using hc
    have hn := (oct_no c).1 hc'
    have e3 : dg (c :: r) 3 50 = false := by unfold dg; simp; omega
    have e2 : dg (c :: r) 2 55 = false := by unfold dg; simp; omega
    have e1 : dg (c :: r) 1 55 = false := by unfold dg; simp; omega
    rw [e3, e2, e1, if_neg (by omega), if_neg (by omega)]; simp
theorem esc_le (l : List Nat) (hl : ∀ x, x ∈ l → x < 256) : (esc l).1 < 256 := by
  cases l with
  | nil => decide
  | cons c r =>
    have hc := hl c (List.mem_cons_self ..)
    by_cases h1 : c = 110
    · subst h1; rw [esc_cons]; simp
    by_cases h2 : c = 114
    · subst h2; rw [esc_cons]; simp
    by_cases h3 : c = 116
    · subst h3; rw [esc_cons]; simp
    by_cases h4 : c = 39 ∨ c = 34 ∨ c = 91 ∨ c = 93 ∨ c = 92
    · rw [esc_cons, if_neg h1, if_neg h2, if_neg h3, if_pos h4]; exact hc
    rw [esc_dg c r h1 h2 h3 h4]
    split
    · rename_i h
      unfold dg at h
      simp only [Bool.and_eq_true, decide_eq_true_eq, List.headD_cons] at h
      obtain ⟨h5, h6, h7⟩ := h
      replace h6 : 48 ≤ c ∧ c ≤ 50 := of_decide_eq_true h6
      rw [List.length_cons] at h5
      match r, h5, h7 with
      | a :: b :: r', _, h7 =>
        have e : (c :: a :: b :: r').take 3 = [c, a, b] := rfl
        rw [e] at h7
        simp only [List.all_cons, List.all_nil, Bool.and_eq_true, oct_iff] at h7
        simp
        omega
    · split
      · rename_i h
        unfold dg at h
        simp only [Bool.and_eq_true, decide_eq_true_eq, List.headD_cons] at h
        obtain ⟨h5, h6, h7⟩ := h
        rw [List.length_cons] at h5
        match r, h5, h7 with
        | a :: r', _, h7 =>
          have e : (c :: a :: r').take 2 = [c, a] := rfl
          rw [e] at h7
          simp only [List.all_cons, List.all_nil, Bool.and_eq_true, oct_iff] at h7
          simp
          omega
      · split
        · simp; omega
        · simp
theorem rdl_lt (l : List Nat) (hl : ∀ x, x ∈ l → x < 256) (c n : Nat) (h : rdl l = some (c, n)) : c < 256 := by
  cases l with
  | nil => cases h
  | cons d r =>
    by_cases hd : d = 92
    · subst hd
      rw [rdl_esc] at h
      have := esc_le r (fun x hx => hl x (List.mem_cons_of_mem _ hx))
      by_cases h0 : (esc r).2 = 0
      · rw [if_pos h0] at h; cases h
      · rw [if_neg h0] at h
        obtain ⟨rfl, -⟩ := Prod.mk.inj (Option.some.inj h)
        exact this
    · rw [rdl_plain d r hd] at h
      obtain ⟨rfl, -⟩ := Prod.mk.inj (Option.some.inj h)
      exact hl _ (List.mem_cons_self ..)
theorem rd_some {s : ByteArray} {p : Int} {c n : Nat} (h : rd (bts s) p = some (c, n)) : 0 ≤ p ∧ p + n ≤ s.size ∧ 1 ≤ n ∧ c < 256 := by
  by_cases hn : p < 0
  · rw [rd_neg _ _ hn] at h; cases h
  · obtain ⟨k, rfl⟩ : ∃ k : Nat, p = k := ⟨p.toNat, by omega⟩
    rw [rd_nat] at h
    have h1 := rdl_len _ _ _ h
    have h2 := rdl_lt _ (fun x hx => bts_lt s x (List.mem_of_mem_drop hx)) _ _ h
    rw [List.length_drop, bts_length] at h1
    omega
end Go.Proofs.Ytklimoepkifnhaa
