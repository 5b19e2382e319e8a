/- The program's small functions: strings' HasPrefix, IndexAny, Clone by contracts; letter, digit, word, skip, Name; the table of signs and Kind. -/
import Derived.Test.YtklimoepkifnhaaBase
import Derived.Test.YtklimoepkifnhaaLexMath
import Derived.Shelf.Strings.IndexAnyAll
import Derived.Shelf.Strings.Prefix
import Derived.Laws.RangeAny
import Derived.Shelf.Small.Utf8
import Derived.Deep.LoopGhost
import Derived.Shelf.Strconv.Clone
import Derived.Lib.TrimU
import Derived.Test.YtklimoepkifnhaaLexTokMath
import Derived.Lib.Strings
namespace Go.Proofs.Ytklimoepkifnhaa
section
open Go.RowKit Go.Shelf
def nl2 : ByteArray := ⟨#[10, 13]⟩
/-- The first line end in a list of bytes, by the library's plain function and by ours. -/
theorem indexAny_nl : ∀ l : List UInt8, Lib.indexAny l [10, 13] = match comL (l.map UInt8.toNat) with | none => -1 | some m => (m : Int)
  | [] => rfl
  | b :: r => by
    have ih := indexAny_nl r
    rw [Lib.indexAny, List.map_cons]
    by_cases h : b.toNat = 10 ∨ b.toNat = 13
    · rw [comL_end h, if_pos]
      · rfl
      · rcases h with h | h
        · have : b = 10 := UInt8.toNat_inj.1 h
          subst this; decide
        · have : b = 13 := UInt8.toNat_inj.1 h
          subst this; decide
    · rw [comL_step h, if_neg]
      · rw [ih]
        cases comL (r.map UInt8.toNat) with
        | none => rfl
        | some m => 
          show (if ((m : Int) == -1) = true then (-1 : Int) else m + 1) = _
          rw [if_neg (by rw [beq_iff_eq]; omega)]; rfl
      · intro hc
        rw [List.contains_iff_mem] at hc
        simp at hc
        rcases hc with rfl | rfl
        · exact h (Or.inl rfl)
        · exact h (Or.inr rfl)
theorem b_toNat (n : Nat) (h : n < 256) : (UInt8.ofNat n).toNat = n := by simp; omega
/-- The text of a rune beyond ASCII: two bytes or more; of two, the second is a continuation. -/
theorem enc_high (r : Int) (h0 : 128 ≤ r) (h1 : r ≤ 1114111) : 2 ≤ (Utf8.encode r).size ∧ (Utf8.encode r).size ≤ 4 ∧ ((Utf8.encode r).size = 2 → ∀ h : 1 < (Utf8.encode r).size, 128 ≤ (Utf8.encode r)[1].toNat) := by
  have hc : ∀ c : Nat, c = (if Utf8.valid r then r.toNat else Utf8.runeError) → 128 ≤ c := fun c h => by
    rw [h]; split
    · omega
    · decide
  unfold Utf8.encode
  generalize hg : (if Utf8.valid r then r.toNat else Utf8.runeError) = c
  have hc' := hc c hg.symm
  dsimp only
  rw [if_neg (by omega)]
  split
  · refine ⟨by show 2 ≤ 2; omega, by show 2 ≤ 4; omega, fun _ h => ?_⟩
    show 128 ≤ (UInt8.ofNat (0x80 + c % 64)).toNat
    rw [b_toNat _ (by omega)]; omega
  · split
    · exact ⟨by show 2 ≤ 3; omega, by show 3 ≤ 4; omega, fun h => absurd h (by show ¬ 3 = 2; omega)⟩
    · exact ⟨by show 2 ≤ 4; omega, by show 4 ≤ 4; omega, fun h => absurd h (by show ¬ 4 = 2; omega)⟩
end
section
open Go.RowKit Go.Shelf
theorem get_is (s : ByteArray) (i : Nat) (h : i < s.size) : s.get! i = s[i] := by
  simp [ByteArray.get!, getElem!_pos, h]
  rfl
/-- A rune beyond ASCII stands on bytes beyond ASCII. -/
theorem decode_span (s : ByteArray) (pos : Nat) (h : pos < s.size) (ha : 128 ≤ s[pos].toNat) : ∀ k, k < (Utf8.decode s pos).2 → pos + k < s.size ∧ 128 ≤ (s.get! (pos + k)).toNat := by
  have h0 : 128 ≤ (s.get! (pos + 0)).toNat := by rw [get_at s pos h]; exact ha
  have hn : ¬ (s.get! (pos + 0)).toNat < 128 := by omega
  have one : ∀ k, k < 1 → pos + k < s.size ∧ 128 ≤ (s.get! (pos + k)).toNat := fun k hk => by
    obtain rfl : k = 0 := by omega
    exact ⟨h, h0⟩
  simp only [Utf8.decode, hn, if_false]
  repeat' split
  all_goals intro k hk
  all_goals (simp only [Bool.and_eq_true, decide_eq_true_eq, beq_iff_eq] at *)
  all_goals first
    | exact one k hk
    | (rcases (by omega : k = 0 ∨ k = 1 ∨ k = 2 ∨ k = 3) with rfl | rfl | rfl | rfl <;> first | exact ⟨h, h0⟩ | (constructor <;> omega) | omega)
theorem comL_high (s : ByteArray) (k : Nat) : ∀ n, (∀ j, j < n → k + j < s.size ∧ 128 ≤ (s.get! (k + j)).toNat) → comL ((bts s).drop k) = (comL ((bts s).drop (k + n))).map (· + n)
  | 0, _ => by simp
  | n + 1, h => by
    rw [comL_high s k n (fun j hj => h j (by omega))]
    obtain ⟨h1, h2⟩ := h n (by omega)
    rw [get_is s _ h1] at h2
    rw [bts_drop s (k + n) h1, comL_step (by omega), Option.map_map]
    refine congrArg (fun f => Option.map f _) (funext fun x => ?_)
    show x + 1 + n = x + (n + 1)
    omega
/-- The world with the place of an iterator turned. -/
def setIter (w : World) (b : Nat) (s : ByteArray) (pos : Nat) : World := { w with heap := w.heap.setIfInBounds b (.stringIter s pos) }
theorem setIter_at {w : World} {b : Nat} (s : ByteArray) (pos : Nat) (h : b < w.heap.size) : (setIter w b s pos).heap[b]? = some (.stringIter s pos) := by
  unfold setIter; simp [h]
theorem setIter_below {n : Nat} {a w : World} {b : Nat} (hb : Below n a w) (hn : n ≤ b) (s : ByteArray) (pos : Nat) : Below n a (setIter w b s pos) :=
  hb.trans ⟨rfl, rfl, rfl, by unfold setIter; simp, fun k hk => by unfold setIter; rw [Array.getElem?_setIfInBounds_ne (by omega)]⟩
theorem run_next_at (w : World) (b : Nat) (s : ByteArray) (pos : Nat) (ty : TypeId) (hb : w.heap[b]? = some (.stringIter s pos)) (h : pos < s.size) :
    (Instr.next (.pointer (some ⟨b, 0, none⟩)) true ty).run Try.prog w = .ok (.tuple #[.bool true, .int .i64 pos, .int .i32 (Utf8.decode s pos).1]) (setIter w b s (pos + (Utf8.decode s pos).2)) := by
  simp only [Instr.next, getObj, setObj, Sem.run_bind, Sem.run, hb, Result.andThen, h, if_true]
  simp [goInt, setIter]
theorem run_next_stop (w : World) (b : Nat) (s : ByteArray) (pos : Nat) (ty : TypeId) (hb : w.heap[b]? = some (.stringIter s pos)) (h : ¬ pos < s.size) :
    (Instr.next (.pointer (some ⟨b, 0, none⟩)) true ty).run Try.prog w = .ok (.tuple #[.bool false]) w := by
  simp [Instr.next, getObj, Sem.run, hb, h]
/-- What IndexAny at the two line ends returns. -/
def ComIs (o : Option Nat) (w : World) (e : Ending) (w' : World) : Prop := e = .returned (.int .i64 (match o with | none => -1 | some m => (m : Int))) ∧ Below w.heap.size w w'
theorem ComIs.no {o : Option Nat} {w w' : World} (h : o = none) (hb : Below w.heap.size w w') : ComIs o w (.returned (.int .i64 (-1))) w' := by subst h; exact ⟨rfl, hb⟩
theorem ComIs.yes {o : Option Nat} {w w' : World} {m : Nat} (h : o = some m) (hb : Below w.heap.size w w') : ComIs o w (.returned (.int .i64 (m : Int))) w' := by subst h; exact ⟨rfl, hb⟩
theorem nl_byte (x : UInt8) (h : x.toNat = 10 ∨ x.toNat = 13) : 0 ≤ Lib.indexByte nl2.data.toList x := by
  rcases h with h | h
  · have : x = 10 := UInt8.toNat_inj.1 h
    subst this; decide
  · have : x = 13 := UInt8.toNat_inj.1 h
    subst this; decide
theorem nl_nobyte (x : UInt8) (h : ¬ (x.toNat = 10 ∨ x.toNat = 13)) : Lib.indexByte nl2.data.toList x = -1 := by
  have h1 : ((10 : UInt8) == x) = false := by rw [beq_eq_false_iff_ne]; rintro rfl; exact h (Or.inl rfl)
  have h2 : ((13 : UInt8) == x) = false := by rw [beq_eq_false_iff_ne]; rintro rfl; exact h (Or.inr rfl)
  show Lib.indexByte [10, 13] x = -1
  simp [Lib.indexByte, h1, h2]
end
section
open Go.RowKit
def digB (c : Nat) : Bool := decide (48 ≤ c ∧ c ≤ 57)
theorem letB_split (c : Nat) : letB c false = (letB c true || digB c) := by
  unfold letB digB
  by_cases h : 48 ≤ c ∧ c ≤ 57 <;> simp [h]
/-- An identifier's bytes, counted from p on. -/
def WordAt (s : ByteArray) (p k : Nat) : Prop := p ≤ k ∧ k ≤ s.size ∧ idL true ((bts s).drop p) + p = k + idL (decide (k = p)) ((bts s).drop k)
theorem WordAt.start {s : ByteArray} {p : Nat} (hp : p ≤ s.size) : WordAt s p p := ⟨Nat.le_refl _, hp, by rw [decide_eq_true rfl]; omega⟩
theorem WordAt.step {s : ByteArray} {p k : Nat} (h : WordAt s p k) (hlt : k < s.size) (hl : letB s[k].toNat (decide (k = p)) = true) : WordAt s p (k + 1) := by
  obtain ⟨h1, h2, h3⟩ := h
  rw [bts_drop s k hlt, idL_yes hl] at h3
  exact ⟨by omega, by omega, by rw [decide_eq_false (by omega)]; omega⟩
theorem WordAt.stop {s : ByteArray} {p k : Nat} (h : WordAt s p k) (hlt : k < s.size) (hl : letB s[k].toNat (decide (k = p)) = false) : k = p + idL true ((bts s).drop p) := by
  obtain ⟨h1, h2, h3⟩ := h
  rw [bts_drop s k hlt, idL_no hl] at h3
  omega
theorem WordAt.fin {s : ByteArray} {p k : Nat} (h : WordAt s p k) (hlt : ¬ k < s.size) : k = p + idL true ((bts s).drop p) := by
  obtain ⟨h1, h2, h3⟩ := h
  rw [List.drop_eq_nil_of_le (i := k) (by rw [bts_length]; omega)] at h3
  have : idL (decide (k = p)) [] = 0 := rfl
  omega
/-- What the program's skip returns. -/
def SkpIs (o : Nat) (p : Nat) (w : World) (e : Ending) (w' : World) : Prop := e = .returned (.int .i64 ((p + o : Nat) : Int)) ∧ Below w.heap.size w w'
theorem SkpIs.mk {o p : Nat} {w w' : World} {x : Int} (h1 : x = ((p + o : Nat) : Int)) (hb : Below w.heap.size w w') : SkpIs o p w (.returned (.int .i64 x)) w' := by
  subst h1; exact ⟨rfl, hb⟩
theorem bts_tail (s : ByteArray) (k : Nat) : bts (s.extract k s.size) = (bts s).drop k := by
  rw [bts_extract, List.take_of_length_le (by rw [List.length_drop, bts_length]; omega)]
theorem allF_idL : ∀ (l : List Nat) (f : Bool), allF f l = decide (idL f l = l.length)
  | [], _ => rfl
  | c :: r, f => by
    cases h : letB c f
    · rw [allF_no h, idL_no h]; simp
    · rw [allF_yes h, idL_yes h, allF_idL r false]; simp
theorem nameB_idL (l : List Nat) : nameB l = decide (0 < idL true l ∧ idL true l = l.length) := by
  unfold nameB
  cases l with
  | nil => rfl
  | cons c r =>
    rw [allF_idL]
    have : (c :: r).length = r.length + 1 := rfl
    by_cases h : idL true (c :: r) = (c :: r).length
    · rw [decide_eq_true h, decide_eq_true ⟨by omega, h⟩]; rfl
    · rw [decide_eq_false h, decide_eq_false (fun e => h e.2)]; rfl
end
section
def sgL : List (List Nat) := [60, 45] :: sigs.map fun x => [x]
def sgS (i : Nat) : ByteArray := strOf (sgL.getD i [])
theorem sgL_lt : ∀ x ∈ sgL, ∀ y ∈ x, y < 256 := by decide
theorem sgS_bts (i : Nat) (h : i < 10) : bts (sgS i) = sgL.getD i [] := by
  refine bts_strOf _ ?_
  have : sgL.getD i [] ∈ sgL := by
    rw [List.getD_eq_getElem?_getD, List.getElem?_eq_getElem (by exact h)]
    exact List.getElem_mem _
  exact sgL_lt _ this
/-- The first of some lists that a list is. -/
def eqF (n : Nat) : List (List Nat) → List Nat → Option Nat
  | [], _ => none
  | x :: q, l => if l = x then some n else eqF (n + 1) q l
theorem eqF_yes {n : Nat} {x l : List Nat} {q : List (List Nat)} (h : l = x) : eqF n (x :: q) l = some n := by
  show (if l = x then some n else eqF (n + 1) q l) = _
  rw [if_pos h]
theorem eqF_no {n : Nat} {x l : List Nat} {q : List (List Nat)} (h : ¬ l = x) : eqF n (x :: q) l = eqF (n + 1) q l := by
  show (if l = x then some n else eqF (n + 1) q l) = _
  rw [if_neg h]
/-- The first of some lists that a list begins with. -/
def prF (n : Nat) : List (List Nat) → List Nat → Option Nat
  | [], _ => none
  | x :: q, l => if x.isPrefixOf l then some n else prF (n + 1) q l
theorem prF_yes {n : Nat} {x l : List Nat} {q : List (List Nat)} (h : x.isPrefixOf l = true) : prF n (x :: q) l = some n := by
  show (if x.isPrefixOf l then some n else prF (n + 1) q l) = _
  rw [if_pos h]
theorem prF_no {n : Nat} {x l : List Nat} {q : List (List Nat)} (h : x.isPrefixOf l = false) : prF n (x :: q) l = prF (n + 1) q l := by
  show (if x.isPrefixOf l then some n else prF (n + 1) q l) = _
  rw [h]; rfl
theorem prF_one : ∀ (q : List Nat) (n c : Nat) (r : List Nat), prF n (q.map fun x => [x]) (c :: r) = idxL n q c
  | [], _, _, _ => rfl
  | x :: q, n, c, r => by
    rw [List.map_cons]
    by_cases h : x = c
    · rw [idxL_yes h, prF_yes (by subst h; simp [List.isPrefixOf])]
    · rw [idxL_no h, prF_no (by simp [List.isPrefixOf]; exact h), prF_one q]
theorem prF_signs (c : Nat) (r : List Nat) : prF 2 sgL (c :: r) = if c = 60 ∧ r.head? = some 45 then some 2 else signK c := by
  unfold sgL
  by_cases h : c = 60 ∧ r.head? = some 45
  · obtain ⟨rfl, hr⟩ := h
    rw [if_pos ⟨rfl, hr⟩, prF_yes]
    cases r with
    | nil => cases hr
    | cons d r => have : d = 45 := Option.some.inj hr
                  subst this; rfl
  · rw [if_neg h, prF_no, prF_one]
    · rfl
    · cases r with
      | nil => simp [List.isPrefixOf]
      | cons d r =>
        simp [List.isPrefixOf]
        intro h1 h2
        exact h ⟨h1.symm, by rw [← h2]; rfl⟩
/-- A byte that begins a token of another kind begins no sign. -/
theorem sign_at (j : Nat) (h : j < 10) : (sgL.getD j []).length = if j = 0 then 2 else 1 := by
  rcases (by omega : j = 0 ∨ j = 1 ∨ j = 2 ∨ j = 3 ∨ j = 4 ∨ j = 5 ∨ j = 6 ∨ j = 7 ∨ j = 8 ∨ j = 9) with rfl | rfl | rfl | rfl | rfl | rfl | rfl | rfl | rfl | rfl <;> rfl
theorem sgL_drop (j : Nat) (h : j < 10) : sgL.drop j = sgL.getD j [] :: sgL.drop (j + 1) := by
  rw [List.getD_eq_getElem?_getD, List.getElem?_eq_getElem (by exact h)]
  exact List.drop_eq_getElem_cons (by exact h)
theorem hasPrefix_bts (s p : ByteArray) : Lib.hasPrefix s.data.toList p.data.toList = (bts p).isPrefixOf (bts s) := by
  unfold Lib.hasPrefix bts
  generalize s.data.toList = a
  generalize p.data.toList = b
  induction b generalizing a with
  | nil => rfl
  | cons x b ih =>
    cases a with
    | nil => rfl
    | cons y a =>
      simp only [List.map_cons, List.isPrefixOf]
      rw [ih a]
      congr 1
      rw [Bool.eq_iff_iff, beq_iff_eq, beq_iff_eq, UInt8.toNat_inj]
end
section
open Go.RowKit
/-- The signs as an array of values. -/
def sgA : Array Value := ((List.range 10).map fun i => Value.string (sgS i)).toArray
theorem sgA_at (i : Nat) (h : i < 10) : sgA[i]? = some (.string (sgS i)) := by
  unfold sgA
  rw [List.getElem?_toArray, List.getElem?_map, List.getElem?_range h]; rfl
theorem sgA_lit : #[Value.string (sgS 0), Value.string (sgS 1), Value.string (sgS 2), Value.string (sgS 3), Value.string (sgS 4), Value.string (sgS 5), Value.string (sgS 6), Value.string (sgS 7), Value.string (sgS 8), Value.string (sgS 9)] = sgA := rfl
def kindI (o : Option Nat) : Int := match o with | none => -1 | some i => (i : Int)
end
end Go.Proofs.Ytklimoepkifnhaa
