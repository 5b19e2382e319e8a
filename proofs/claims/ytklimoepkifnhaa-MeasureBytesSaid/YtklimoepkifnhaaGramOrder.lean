/- gram.checkOrder. -/
import Derived.Test.YtklimoepkifnhaaGramErr
import Derived.Laws.OwnMore
import Derived.Deep.Cut
import Derived.Lib.SmallJoins
namespace Go.Proofs.Ytklimoepkifnhaa
open Go.RowKit
theorem popL_some : ∀ (ks st st' : List Int), popL ks st = some st' → st = ks ++ st'
  | [], st, st', h => by cases h; rfl
  | k :: ks, [], st', h => by cases h
  | k :: ks, x :: st, st', h => by
    have hd : popL (k :: ks) (x :: st) = if k = x then popL ks st else none := rfl
    by_cases e : k = x
    · rw [hd, if_pos e] at h; rw [e, popL_some ks st st' h]; rfl
    · rw [hd, if_neg e] at h; cases h
theorem popL_app : ∀ (ks st' : List Int), popL ks (ks ++ st') = some st'
  | [], _ => rfl
  | k :: ks, st' => by
    show (if k = k then popL ks (ks ++ st') else none) = _
    rw [if_pos rfl, popL_app ks st']
theorem intsV_length (l : List Int) : (intsV l).length = l.length := by unfold intsV; rw [List.length_map]
theorem intsV_append (l m : List Int) : intsV (l ++ m) = intsV l ++ intsV m := by unfold intsV; rw [List.map_append]
theorem intsV_take (l : List Int) (k : Nat) : intsV (l.take k) = (intsV l).take k := by unfold intsV; rw [List.map_take]
/-- An own row, cut behind its first elements. -/
theorem ownsRow_cut {w : World} {base : Nat} {e : TypeId} {a : Option Addr} {n cap k : Nat} {xs : List Value} (h : w.ownsRow base e 1 (.slice a n cap) n xs) (hk : k ≤ n) : w.ownsRow base e 1 (.slice a k cap) k (xs.take k) := by
  obtain ⟨h1, h2⟩ := h
  rcases h2 with ⟨h0, h3⟩ | ⟨g', cap', cur, hv, hg, hh, hn, hcap, hsz, htake⟩
  · injection h0 with e1 e2 e3
    subst e1 e2 e3
    obtain rfl : k = 0 := by omega
    exact ⟨by simp, .inl ⟨rfl, rfl⟩⟩
  · injection hv with e1 e2 e3
    subst e1 e3
    refine ⟨by rw [List.length_take]; omega, .inr ⟨g', cap, cur, rfl, hg, hh, by omega, hcap, hsz, ?_⟩⟩
    rw [← htake, List.take_take, Nat.mul_one, Nat.mul_one, Nat.min_eq_left hk]
theorem ownsRow_slice {w : World} {base : Nat} {e : TypeId} {v : Value} {n : Nat} {xs : List Value} (h : w.ownsRow base e 1 v n xs) : ∃ a cap, v = .slice a n cap ∧ n ≤ cap ∧ (n = 0 ∨ ∃ g, a = some ⟨g, 0, none⟩) ∧ (a = none ∨ ∃ g, a = some ⟨g, 0, none⟩) := by
  obtain ⟨h1, h2⟩ := h
  rcases h2 with ⟨h0, h3⟩ | ⟨g', cap', cur, hv, hg, hh, hn, hcap, hsz, htake⟩
  · subst h3; exact ⟨none, 0, h0, Nat.le_refl _, .inl rfl, .inl rfl⟩
  · exact ⟨_, cap', hv, hn, .inr ⟨g', rfl⟩, .inr ⟨g', rfl⟩⟩
theorem own_ints {w : World} {base : Nat} {a a' : Option Addr} {n cap f c k : Nat} {l : List Int} (h : w.ownsRow base 3 1 (.slice a n cap) n (intsV l)) (hn : l.length = n) (hf : n = f + k) (ha : k = 0 ∨ ∃ g, a = some ⟨g, 0, none⟩ ∧ a' = some ⟨g, f, none⟩) : IntsAt w (.slice a' k c) (l.drop f) := by
  have hl : (l.drop f).length = k := by rw [List.length_drop]; omega
  refine ⟨a', c, by rw [hl], ?_⟩
  rcases ha with h0 | ⟨g, rfl, rfl⟩
  · left; exact List.length_eq_zero_iff.1 (by omega)
  · right
    refine ⟨g, f, rfl, fun i x hx => ?_⟩
    rw [List.getElem?_drop] at hx
    have := h.cells rfl (f + i) (.int .i64 x) (by unfold intsV; rw [List.getElem?_map, hx]; rfl)
    rw [Addr.add_lit, Nat.zero_add] at this; exact this
theorem size_int (w : World) : (sizeOf (Try.prog.elem 32)).run Try.prog w = .ok 1 w := by kernel_rfl
theorem und_ints : Try.prog.underlying 32 = some (.slice (Try.prog.elem 32)) := by kernel_rfl
theorem cut_run (a : Option Addr) (n cap k : Nat) (hk : k ≤ cap) (ha : a = none ∨ ∃ g, a = some ⟨g, 0, none⟩) (w : World) : (Instr.slice 32 (.slice a n cap) none (some (.int .i64 (k : Int))) none).run Try.prog w = .ok (.slice a k cap) w := by
  rw [run_slice_h w 32 a n cap und_ints .i64 (k : Int) (by omega) (by omega), size_int, Result.andThen_ok]
  unfold sliced
  rcases ha with rfl | ⟨g, rfl⟩
  · simp
  · simp [Addr.add]
theorem tail_run (a : Option Addr) (n cap f k : Nat) (hn : n = f + k) (hk : n ≤ cap) (ha : k = 0 ∨ ∃ g, a = some ⟨g, 0, none⟩) : ∃ a', (∀ w, (Instr.slice 32 (.slice a n cap) (some (.int .i64 (f : Int))) (some (.int .i64 (n : Int))) (some (.int .i64 (n : Int)))).run Try.prog w = .ok (.slice a' k k) w) ∧ (k = 0 ∨ ∃ g, a = some ⟨g, 0, none⟩ ∧ a' = some ⟨g, f, none⟩) := by
  rcases Nat.eq_zero_or_pos k with h0 | h0
  · refine ⟨a, fun w => ?_, .inl h0⟩
    rw [run_slice_lhm w 32 a n cap und_ints .i64 .i64 .i64 (f : Int) (n : Int) (n : Int) (by omega) (by omega) (by omega) (by omega), size_int, Result.andThen_ok]
    unfold sliced
    subst h0
    rw [if_pos (by omega), show (n : Int).toNat - (f : Int).toNat = 0 by omega]
  · rcases ha with h | ⟨g, rfl⟩
    · omega
    · refine ⟨some ⟨g, f, none⟩, fun w => ?_, .inr ⟨g, rfl, rfl⟩⟩
      rw [run_slice_lhm w 32 _ n cap und_ints .i64 .i64 .i64 (f : Int) (n : Int) (n : Int) (by omega) (by omega) (by omega) (by omega), size_int, Result.andThen_ok]
      unfold sliced
      rw [if_neg (by omega), show (n : Int).toNat - (f : Int).toNat = k by omega]
      simp [Addr.add]
      intro h; exact h.symm
end Go.Proofs.Ytklimoepkifnhaa
