/- Small lemmas that the texts of several stages use: old memory over new, rows of values, numbers and strings in a walk. -/
import Derived.Test.YtnfjbjmdempafaaProg
import Derived.WalkKit
import Derived.ProofKit
import Derived.Outline
import Derived.Handy
import Derived.Below
import Derived.OwnWalk
import Derived.Lib.Hide
import Derived.Lib.BufferRead
import Derived.Deep.QuietTactic
import Derived.Test.YtnfjbjmdempafaaPxA
namespace Go.Proofs.Ytnfjbjmdempafaa
open Go.RowKit
theorem bcell {n : Nat} {W w1 : World} (hb : Below n W w1) : (∀ b o, b < n → w1.cell? ⟨b, o, none⟩ = W.cell? ⟨b, o, none⟩) ∧ (∀ b o, b < n → w1.frozen? ⟨b, o, none⟩ = W.frozen? ⟨b, o, none⟩) :=
  ⟨fun b o h => hb.cell (p := ⟨b, o, none⟩) h, fun b o h => hb.frozen (p := ⟨b, o, none⟩) h⟩
theorem ret_bool {a b : Bool} (h : a = b) : Ending.returned (.bool a) = .returned (.bool b) := by rw [h]
theorem ret_int {k : IntKind} {a b : Int} (h : a = b) : Ending.returned (.int k a) = .returned (.int k b) := by rw [h]
theorem lt_of_cell {w : World} {b o : Nat} {v : Value} (h : w.cell? ⟨b, o, none⟩ = some v) : b < w.heap.size := by
  rcases Nat.lt_or_ge b w.heap.size with h' | h'
  · exact h'
  · simp [World.cell?, Array.getElem?_eq_none h'] at h
/-- v is a slice that holds the values cs in the world w. -/
def RowAt (w : World) (v : Value) (cs : List Value) : Prop := ∃ a cap, v = .slice a cs.length cap ∧ (cs = [] ∨ ∃ b off, a = some ⟨b, off, none⟩ ∧ ∀ i c, cs[i]? = some c → w.cell? ⟨b, off + i, none⟩ = some c)
theorem RowAt.kept {n : Nat} {w w' : World} {v : Value} {cs : List Value} (h : RowAt w v cs) (hb : Below n w w') (hn : w.heap.size ≤ n) : RowAt w' v cs := by
  obtain ⟨a, cap, rfl, h⟩ := h
  rcases h with h | ⟨b, off, rfl, hc⟩
  · exact ⟨a, cap, rfl, .inl h⟩
  · exact ⟨_, cap, rfl, .inr ⟨b, off, rfl, fun i c hi => by have := lt_of_cell (hc i c hi); rw [(bcell hb).1 _ _ (by omega)]; exact hc i c hi⟩⟩
theorem RowAt.below {w w' : World} {v : Value} {cs : List Value} (h : RowAt w v cs) (hb : Below w.heap.size w w') : RowAt w' v cs := h.kept hb (Nat.le_refl _)
theorem take_snoc' {α : Type} (l : List α) (k : Nat) (x : α) (h : l[k]? = some x) : l.take (k + 1) = l.take k ++ [x] := by
  obtain ⟨h1, h2⟩ := List.getElem?_eq_some_iff.1 h
  rw [List.take_succ_eq_append_getElem h1, h2]
theorem grownBy_of_below {w w' : World} (h : Below w.heap.size w w') : w.grownBy w' none := ⟨h.os, h.tape, h.output, h.size, fun k hk _ => h.block k hk⟩
theorem ownsRow_grown {W w1 : World} {base : Nat} {e : TypeId} {size : Nat} {v : Value} {k : Nat} {xs : List Value} (h : W.ownsRow base e size v k xs) (hb : Below W.heap.size W w1) : w1.ownsRow base e size v k xs := by
  refine h.kept (grownBy_of_below hb) ?_
  cases hv : v.ownBlock with
  | none => exact .inl rfl
  | some b => exact .inr (by simp)
theorem below_drewN {B m : Nat} {a w : World} (h : Below B a w) : Below B a (w.drewN m) := ⟨h.os, h.tape, h.output, h.size, h.block⟩
theorem isEmpty_no {s : ByteArray} (h : 0 < s.size) : s.toList.isEmpty = false := by
  rw [ByteArray.toList_eq]
  cases hl : s.data.toList with
  | nil => have := congrArg List.length hl; rw [Array.length_toList] at this; exact absurd this (by show ¬ s.size = 0; omega)
  | cons _ _ => rfl
theorem isEmpty_yes {s : ByteArray} (h : ¬ 0 < s.size) : s.toList.isEmpty = true := by
  rw [ByteArray.toList_eq]
  cases hl : s.data.toList with
  | nil => rfl
  | cons a l => have := congrArg List.length hl; rw [Array.length_toList, List.length_cons] at this; exact absurd this (by show ¬ s.size = _; omega)
theorem ibeq_no {c k : Int} (h : c ≠ k) : (c == k) = false := by rw [beq_eq_false_iff_ne]; exact h
theorem ibne_yes {c k : Int} (h : c ≠ k) : (c != k) = true := by rw [bne_iff_ne]; exact h
end Go.Proofs.Ytnfjbjmdempafaa
