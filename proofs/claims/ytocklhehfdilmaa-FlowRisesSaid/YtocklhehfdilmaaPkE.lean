/- The program's small functions: strings' HasPrefix, IndexAny, Clone by contracts; letter, digit, word, skip, Name; the table of signs and Kind. What an error of  -/
import Derived.Shelf.Strings.IndexAnyAll
import Derived.Shelf.Strings.Prefix
import Derived.Laws.RangeAny
import Derived.Shelf.Small.Utf8
import Derived.Deep.LoopGhost
import Derived.Shelf.Strconv.Clone
import Derived.Lib.TrimU
import Derived.Lib.Strings
import Derived.Test.YtocklhehfdilmaaProg
import Derived.WalkKit
import Derived.ProofKit
import Derived.Test.YtocklhehfdilmaaPkA
import Derived.Test.YtocklhehfdilmaaPkBase
namespace Go.Proofs.Ytocklhehfdilmaa
section
open Go.RowKit Go.Shelf
end
section
open Go.RowKit Go.Shelf
/-- What IndexAny at the two line ends returns. -/
def ComIs (o : Option Nat) (w : World) (e : Ending) (w' : World) : Prop := e = .returned (.int .i64 (match o with | none => -1 | some m => (m : Int))) ∧ Below w.heap.size w w'
theorem ComIs.no {o : Option Nat} {w w' : World} (h : o = none) (hb : Below w.heap.size w w') : ComIs o w (.returned (.int .i64 (-1))) w' := by subst h; exact ⟨rfl, hb⟩
end
section
open Go.RowKit
/-- An identifier's bytes, counted from p on. -/
def WordAt (s : ByteArray) (p k : Nat) : Prop := p ≤ k ∧ k ≤ s.size ∧ idL true ((bts s).drop p) + p = k + idL (decide (k = p)) ((bts s).drop k)
theorem WordAt.start {s : ByteArray} {p : Nat} (hp : p ≤ s.size) : WordAt s p p := ⟨Nat.le_refl _, hp, by rw [decide_eq_true rfl]; omega⟩
theorem WordAt.step {s : ByteArray} {p k : Nat} (h : WordAt s p k) (hlt : k < s.size) (hl : letB s[k].toNat (decide (k = p)) = true) : WordAt s p (k + 1) := by
  obtain ⟨h1, h2, h3⟩ := h
  rw [bts_drop s k hlt, idL_yes hl] at h3
  exact ⟨by omega, by omega, by rw [decide_eq_false (by omega)]; omega⟩
/-- What the program's skip returns. -/
def SkpIs (o : Nat) (p : Nat) (w : World) (e : Ending) (w' : World) : Prop := e = .returned (.int .i64 ((p + o : Nat) : Int)) ∧ Below w.heap.size w w'
theorem SkpIs.mk {o p : Nat} {w w' : World} {x : Int} (h1 : x = ((p + o : Nat) : Int)) (hb : Below w.heap.size w w') : SkpIs o p w (.returned (.int .i64 x)) w' := by
  subst h1; exact ⟨rfl, hb⟩
end
section
end
section
open Go.RowKit
end
end Go.Proofs.Ytocklhehfdilmaa
namespace Go.Proofs.Ytocklhehfdilmaa
open Go.RowKit
/-- An error: a code, a fault, a text of package errors, or one that Within has made. -/
inductive Err where
  | code (c : Int)
  | fault (c p : Int)
/-- How many errors stand behind it in its chain, a fault's code among them. -/
def Err.deep : Err → Nat
  | .code _ => 0
  | .fault _ _ => 1
def Err.In (_w : World) : Err → Prop
  | .code _ => True
  | .fault _ _ => True
theorem Err.In.kept {e : Err} {n : Nat} {w w1 : World} (h : e.In w) (_hb : Below n w w1) (_hn : w.heap.size ≤ n) : e.In w1 := by
  induction e with
  | code c => trivial
  | fault c p => trivial
end Go.Proofs.Ytocklhehfdilmaa
