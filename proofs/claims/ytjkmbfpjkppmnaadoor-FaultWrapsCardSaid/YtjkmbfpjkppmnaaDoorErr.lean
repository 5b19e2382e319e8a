/- What an error of this program may be, as a tree; the value that stands for it; and that it lies in memory as it did as long as old memory stays as it was. No walk. -/
import Derived.Test.YtjkmbfpjkppmnaaDoorProg
import Derived.WalkKit
import Derived.ProofKit
namespace Go.Proofs.YtjkmbfpjkppmnaaDoor
open Go.RowKit
/-- An error: a code, a fault, a text of package errors, or one that Within has made. -/
inductive Err where
  | code (c : Int)
  | fault (c p : Int)
  | text (b : Nat) (s : ByteArray)
  | within (b : Nat) (r : ByteArray) (e : Err)
def Err.val : Err → Value
  | .code c => .iface 30 (.int .i64 c)
  | .fault c p => .iface 41 (.agg #[.int .i64 c, .int .i64 p])
  | .text b _ => .iface 83 (.pointer (some ⟨b, 0, none⟩))
  | .within b _ _ => .iface 60 (.pointer (some ⟨b, 0, none⟩))
/-- The dynamic type, and what the interface value holds. -/
def Err.ty : Err → Nat
  | .code _ => 30
  | .fault _ _ => 41
  | .text _ _ => 83
  | .within _ _ _ => 60
def Err.inner : Err → Value
  | .code c => .int .i64 c
  | .fault c p => .agg #[.int .i64 c, .int .i64 p]
  | .text b _ => .pointer (some ⟨b, 0, none⟩)
  | .within b _ _ => .pointer (some ⟨b, 0, none⟩)
/-- The function that is its method Error. -/
def Err.fnError : Err → Nat
  | .code _ => 57
  | .fault _ _ => 72
  | .text _ _ => 79
  | .within _ _ _ => 74
theorem Err.val_eq (e : Err) : e.val = .iface e.ty e.inner := by cases e <;> rfl
/-- How many errors stand behind it in its chain, a fault's code among them. -/
def Err.deep : Err → Nat
  | .code _ => 0
  | .fault _ _ => 1
  | .text _ _ => 0
  | .within _ _ e => e.deep + 1
def Err.In (w : World) : Err → Prop
  | .code _ => True
  | .fault _ _ => True
  | .text b s => w.cell? ⟨b, 0, none⟩ = some (.string s)
  | .within b r e => w.cell? ⟨b, 0, none⟩ = some (.string r) ∧ w.cell? ⟨b, 1, none⟩ = some e.val ∧ e.In w
/-- The first code in the chain. -/
def Err.codeOf : Err → Option Int
  | .code c => some c
  | .fault c _ => some c
  | .text _ _ => none
  | .within _ _ e => e.codeOf
def Err.faultOf : Err → Option (Int × Int)
  | .code _ => none
  | .fault c p => some (c, p)
  | .text _ _ => none
  | .within _ _ e => e.faultOf
/-- The first that Within has made: its block. -/
def Err.withinOf : Err → Option Nat
  | .code _ => none
  | .fault _ _ => none
  | .text _ _ => none
  | .within b _ _ => some b
theorem lt_of_cell {w : World} {b o : Nat} {v : Value} (h : w.cell? ⟨b, o, none⟩ = some v) : b < w.heap.size := by
  rcases Nat.lt_or_ge b w.heap.size with h' | h'
  · exact h'
  · simp [World.cell?, Array.getElem?_eq_none h'] at h
theorem bcell {n : Nat} {W w1 : World} (hb : Below n W w1) : (∀ b o, b < n → w1.cell? ⟨b, o, none⟩ = W.cell? ⟨b, o, none⟩) ∧ (∀ b o, b < n → w1.frozen? ⟨b, o, none⟩ = W.frozen? ⟨b, o, none⟩) :=
  ⟨fun b o h => hb.cell (p := ⟨b, o, none⟩) h, fun b o h => hb.frozen (p := ⟨b, o, none⟩) h⟩
theorem Err.In.kept {e : Err} {n : Nat} {w w1 : World} (h : e.In w) (hb : Below n w w1) (hn : w.heap.size ≤ n) : e.In w1 := by
  induction e with
  | code c => trivial
  | fault c p => trivial
  | text b s => exact (by rw [(bcell hb).1 _ _ (by have := lt_of_cell h; omega)]; exact h : w1.cell? ⟨b, 0, none⟩ = some (.string s))
  | within b r e ih =>
    obtain ⟨h0, h1, h2⟩ := h
    have hl := lt_of_cell h0
    exact ⟨by rw [(bcell hb).1 _ _ (by omega)]; exact h0, by rw [(bcell hb).1 _ _ (by omega)]; exact h1, ih h2⟩
theorem Err.val_ne (e : Err) : ∃ t v, e.val = .iface t v := by
  cases e <;> exact ⟨_, _, rfl⟩
end Go.Proofs.YtjkmbfpjkppmnaaDoor
