/- The fixed examples of package gram. -/
import Derived.Test.YtklimoepkifnhaaGramTxt
namespace Go.Proofs.Ytklimoepkifnhaa
open Go.RowKit
def exR : List PR := [⟨⟨#[65]⟩, 4⟩]
def exN : List PN := [⟨1, [], 0, 0, 8589934592, 0, 0⟩, ⟨2, [], 0, 0, 0, 0, 0⟩, ⟨3, [0, 1], 0, 0, 0, 0, 0⟩, ⟨0, [], 0, 0, 0, 0, 0⟩, ⟨4, [2, 3], 0, 0, 0, 0, 0⟩]
theorem ex_ok : chkL exR exN = .ok := by kernel_rfl
theorem ex_bad : chkL [⟨⟨#[49]⟩, 0⟩] [⟨0, [], 0, 0, 0, 0, 0⟩] = .rules 0 := by kernel_rfl
theorem alloc_at (w : World) (o : Obj) (k : Nat) (x : Obj) (h : w.heap[k]? = some x) : (w.alloc o).heap[k]? = some x := by
  rw [Below.heap_alloc w o k (Array.getElem?_eq_some_iff.1 h).1]; exact h
theorem alloc_new' (w : World) (o : Obj) (k : Nat) (h : w.heap.size = k) : (w.alloc o).heap[k]? = some o := by subst h; exact heap_alloc_new w o
theorem five_blocks (w : World) (o0 o1 o2 o3 o4 : Obj) (n : Nat) (hn : w.heap.size = n) (W : World) (hW : ((((w.alloc o0).alloc o1).alloc o2).alloc o3).alloc o4 = W) :
    W.heap[n]? = some o0 ∧ W.heap[n + 1]? = some o1 ∧ W.heap[n + 1 + 1]? = some o2 ∧ W.heap[n + 1 + 1 + 1]? = some o3 ∧ W.heap[n + 1 + 1 + 1 + 1]? = some o4 ∧ Below w.heap.size w W := by
  subst hW
  have s1 : (w.alloc o0).heap.size = n + 1 := by rw [World.size_alloc, hn]
  have s2 : ((w.alloc o0).alloc o1).heap.size = n + 1 + 1 := by rw [World.size_alloc, s1]
  have s3 : (((w.alloc o0).alloc o1).alloc o2).heap.size = n + 1 + 1 + 1 := by rw [World.size_alloc, s2]
  have s4 : ((((w.alloc o0).alloc o1).alloc o2).alloc o3).heap.size = n + 1 + 1 + 1 + 1 := by rw [World.size_alloc, s3]
  exact ⟨alloc_at _ _ _ _ (alloc_at _ _ _ _ (alloc_at _ _ _ _ (alloc_at _ _ _ _ (alloc_new' w o0 n hn)))), alloc_at _ _ _ _ (alloc_at _ _ _ _ (alloc_at _ _ _ _ (alloc_new' _ o1 _ s1))), alloc_at _ _ _ _ (alloc_at _ _ _ _ (alloc_new' _ o2 _ s2)), alloc_at _ _ _ _ (alloc_new' _ o3 _ s3), alloc_new' _ o4 _ s4,
    ((((((Below.refl _ _).alloc (Nat.le_refl _) _).alloc (by omega) _).alloc (by omega) _).alloc (by omega) _).alloc (by omega) _)⟩
def badR : List PR := [⟨⟨#[49]⟩, 0⟩]
def badN : List PN := [⟨0, [], 0, 0, 0, 0, 0⟩]
theorem bad_in (w : World) (n : Nat) (hn : w.heap.size = n) : RulesIn ((w.alloc (.cells #[.string ⟨#[49]⟩, .int .i64 0] 53)).alloc (.cells #[.int .i64 0, .slice none 0 0, .int .i64 0, .int .u64 0, .int .u64 0, .int .u64 0, .int .u64 0] 37)) (.slice (some ⟨n, 0, none⟩) 1 1) badR ∧
    NodesAt ((w.alloc (.cells #[.string ⟨#[49]⟩, .int .i64 0] 53)).alloc (.cells #[.int .i64 0, .slice none 0 0, .int .i64 0, .int .u64 0, .int .u64 0, .int .u64 0, .int .u64 0] 37)) (.slice (some ⟨n + 1, 0, none⟩) 1 1) badN := by
  generalize hW : ((w.alloc (.cells #[.string ⟨#[49]⟩, .int .i64 0] 53)).alloc (.cells #[.int .i64 0, .slice none 0 0, .int .i64 0, .int .u64 0, .int .u64 0, .int .u64 0, .int .u64 0] 37)) = W
  have h1 : W.heap[n]? = some (.cells #[.string ⟨#[49]⟩, .int .i64 0] 53 (0, 0)) := by rw [← hW]; exact alloc_at _ _ _ _ (alloc_new' w _ n hn)
  have h2 : W.heap[n + 1]? = some (.cells #[.int .i64 0, .slice none 0 0, .int .i64 0, .int .u64 0, .int .u64 0, .int .u64 0, .int .u64 0] 37 (0, 0)) := by rw [← hW]; exact alloc_new' _ _ (n + 1) (by rw [World.size_alloc, hn])
  refine ⟨⟨by decide, _, _, rfl, .inr ⟨_, 0, rfl, fun i r hr => ?_⟩⟩, ⟨by decide, _, _, rfl, .inr ⟨_, 0, rfl, fun i r hr => ?_⟩⟩⟩
  · match i, hr with
    | 0, hr =>
      obtain rfl := Option.some.inj hr
      exact ⟨by simp [World.cell?, h1], by simp [World.cell?, h1]⟩
    | i + 1, hr => simp [badR] at hr
  · match i, hr with
    | 0, hr =>
      obtain rfl := Option.some.inj hr
      exact ⟨.slice none 0 0, by simp [World.cell?, h2], by simp [World.cell?, h2], by simp [World.cell?, h2], by simp [World.cell?, h2], by simp [World.cell?, h2], by simp [World.cell?, h2], by simp [World.cell?, h2], ⟨none, 0, rfl, .inl rfl⟩, by decide⟩
    | i + 1, hr => simp [badN] at hr
theorem ex_names : ∀ r, r ∈ exR → r.name.size ≤ 2000000 := fun r hr => by
  have : r = ⟨⟨#[65]⟩, 4⟩ := by simpa [exR] using hr
  subst this; decide
theorem ex_kids : ∀ n, n ∈ exN → n.kids.length ≤ 1000000 := fun n hn => by
  simp [exN] at hn
  rcases hn with rfl | rfl | rfl | rfl | rfl <;> decide
theorem ex_order : ordR exN exR (-1) = true := by kernel_rfl
theorem ex_d4 : dpL exN 4 = 3 := by kernel_rfl
theorem ex_f4 : fstL exN 4 = 0 := by kernel_rfl
theorem ex_f3 : fstL exN 3 = 3 := by kernel_rfl
theorem ex_o2 : ownL exR 2 = 0 := by kernel_rfl
end Go.Proofs.Ytklimoepkifnhaa
