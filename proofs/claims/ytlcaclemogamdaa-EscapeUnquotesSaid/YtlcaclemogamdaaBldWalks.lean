/- The contracts of a strings.Builder that the caller has made itself: copyCheck, WriteByte, WriteString. -/
import Derived.Test.YtlcaclemogamdaaUnqRef
import Derived.Lib.Builder
import Derived.Shelf.Strings.BuilderX
import Derived.Lib.AppendStr
import Derived.Laws.Externs
namespace Go.Proofs.Ytlcaclemogamdaa
open Go.RowKit
theorem infoBuilder : (Try.prog.info? 43).map (fun i => i.size) = some 2 := by kernel_rfl
theorem builderLies : liesAt Try.prog Try.prog.depth 43 (2 / Try.prog.cellsOf 43) 0 43 1 = true := by kernel_rfl
theorem copyCheck_used (b : Nat) (w : World) (h0 : w.cell? ⟨b, 0, none⟩ = some (.pointer (some ⟨b, 0, none⟩))) :
    Calls Try.prog 24 #[.pointer (some ⟨b, 0, none⟩)] w fun e w' => e = .returned (.tuple #[]) ∧ w' = w := by
  obtain ⟨j, hj, hjs⟩ := Option.map_eq_some_iff.1 infoBuilder
  have k1 := Lib.run_neq_ptr_same (P := Try.prog) w ⟨b, 0, none⟩ Try.underlying41 hj
  go_enter Try.func24, Try.ntmps24
  go_wp2
  go_end0
  exact ⟨rfl, rfl⟩
theorem copyCheck_fresh (b : Nat) (w : World) (h0 : w.cell? ⟨b, 0, none⟩ = some (.pointer none)) (hsh : w.shape? b = some (43, 2)) (hfz : w.frozen? ⟨b, 0, none⟩ = false) :
    Calls Try.prog 24 #[.pointer (some ⟨b, 0, none⟩)] w fun e w' => e = .returned (.tuple #[]) ∧ w' = w.setCell ⟨b, 0, none⟩ (.pointer (some ⟨b, 0, none⟩)) := by
  obtain ⟨j, hj, hjs⟩ := Option.map_eq_some_iff.1 infoBuilder
  have k1 := Lib.run_to_unsafe (P := Try.prog) w ⟨b, 0, none⟩ Try.underlying41 Try.underlying51 hj (by rw [hjs]; decide) hsh (Nat.zero_lt_succ 1)
  have k2 := Lib.run_from_unsafe (P := Try.prog) w ⟨b, 0, none⟩ Try.underlying51 Try.underlying41 hj hsh builderLies
  have k3 := Lib.run_noEscape (P := Try.prog) w (.pointer (some ⟨b, 0, none⟩))
  have k4 := run_callFunc_extern (P := Try.prog) Try.func25 (by kernel_rfl) (by kernel_rfl) (by kernel_rfl) (e := Extern.AbiNoEscape.same) (by kernel_rfl) #[.pointer (some ⟨b, 0, none⟩)] w
  rw [k3] at k4
  go_enter Try.func24, Try.ntmps24
  go_wp2
  go_end0
  exact ⟨rfl, rfl⟩
/-- A builder of the caller's own, that holds the bytes l: in block b, the caller's own blocks being those from B on. -/
def Bld (B b : Nat) (l : List Nat) (w : World) : Prop := Lib.IsBuilder 43 5 B b (u8s l) w
theorem u8s_length (l : List Nat) : (u8s l).length = l.length := by unfold u8s; rw [List.length_map]
theorem u8s_append (l m : List Nat) : u8s (l ++ m) = u8s l ++ u8s m := by unfold u8s; rw [List.map_append]
theorem u8s_strCells (s : ByteArray) : Lib.strCells s = u8s (bts s) := by
  unfold Lib.strCells u8s bts
  rw [List.map_map]; rfl
theorem copyCheck_any (B b : Nat) (l : List Nat) (w : World) (h : Bld B b l w) :
    Calls Try.prog 24 #[.pointer (some ⟨b, 0, none⟩)] w fun e w' => e = .returned (.tuple #[]) ∧ Lib.BuilderAt 43 5 B b (.pointer (some ⟨b, 0, none⟩)) (u8s l) w' ∧ Below B w w' := by
  rcases h with h | h
  · refine (copyCheck_fresh b w h.cell0 h.shape h.frozen0).mono ?_
    rintro e w' ⟨rfl, rfl⟩
    exact ⟨rfl, h.used _, (Below.refl B w).setCell (p := ⟨b, 0, none⟩) h.1 _⟩
  · refine (copyCheck_used b w h.cell0).mono ?_
    rintro e w' ⟨rfl, rfl⟩
    exact ⟨rfl, h, Below.refl B _⟩
theorem kept_grown {w w' : World} {b : Nat} {p v : Value} (hbk : w.heap[b]? = some (.cells #[p, v] 43 (0, 0))) (hne : v.ownBlock ≠ some b) (hg : w.grownBy w' v.ownBlock) :
    w'.heap[b]? = some (.cells #[p, v] 43 (0, 0)) ∧ w'.cell? ⟨b, 1, none⟩ = some v ∧ w'.frozen? ⟨b, 1, none⟩ = false := by
  have hlt : b < w.heap.size := by
    rcases Nat.lt_or_ge b w.heap.size with h' | h'
    · exact h'
    · rw [Array.getElem?_eq_none h'] at hbk; cases hbk
  have h2 : w'.heap[b]? = some (.cells #[p, v] 43 (0, 0)) := by rw [hg.block b hlt (fun e => hne e.symm)]; exact hbk
  exact ⟨h2, by rw [Lib.cell_of_heap h2]; rfl, Lib.frozen_of_heap h2 1⟩
theorem heap_alloc {w : World} {b : Nat} {x : Obj} (o : Obj) (h : w.heap[b]? = some x) : (w.alloc o).heap[b]? = some x := by
  rw [Lib.alloc_old w o b (by
    rcases Nat.lt_or_ge b w.heap.size with h' | h'
    · exact h'
    · rw [Array.getElem?_eq_none h'] at h; cases h)]
  exact h
theorem ownsRow_form {w : World} {B : Nat} {t : TypeId} {v : Value} {n : Nat} {xs : List Value} (h : w.ownsRow B t 1 v n xs) : ∃ a cap, v = .slice a n cap := by
  rcases h.2 with ⟨h1, h2⟩ | ⟨g, cap, cur, h1, -⟩
  · exact ⟨none, 0, by rw [h1, h2]⟩
  · exact ⟨_, cap, h1⟩
set_option maxHeartbeats 1000000 in
set_option maxRecDepth 100000 in
theorem writeByte_any (B b : Nat) (l : List Nat) (c : Nat) (w : World) (h : Bld B b l w) (hl : l.length ≤ 1000000) (hB : B ≤ w.heap.size) :
    Calls Try.prog 20 #[.pointer (some ⟨b, 0, none⟩), .int .u8 (c : Int)] w fun e w' => e = .returned .nilIface ∧ Bld B b (l ++ [c]) w' ∧ Below B w w' := by
  obtain ⟨i0, hi0, hz0, hz1, hz2⟩ := info_parts infoU8
  have H := Lib.hid h
  clear h
  go_enter Try.func20, Try.ntmps20
  go_wp2_with (first
    | (go_at_call 24; (with_reducible refine (copyCheck_any B b l _ H.out).mono ?_); rintro e w1 ⟨rfl, h1, hb1⟩; obtain ⟨hBb, v, hbk, hown, hne⟩ := h1; have hz1' := hb1.size; have hlt := Lib.BuilderAt.lt ⟨hBb, v, hbk, hown, hne⟩; have c1 : w1.cell? ⟨b, 1, none⟩ = some v := by (rw [Lib.cell_of_heap hbk]; rfl))
    | (at_builtin; refine wpList_append_own _ rfl _ _ 30 rfl B 5 i0 (.int .u8 0) 1 1 Try.underlying30 hi0 hz0 hz1 hz2 rfl (by decide) _ _ _ rfl (hown.alloc _) ⟨w1.heap.size, 0, none⟩ 1 1 [.int .u8 (c : Int)] rfl rfl (cell_one_new _ _ _) (by simp [Value.oneCell']) (by rw [u8s_length]; unfold maxLen; omega) (by rw [u8s_length]; omega) (by simp; omega) ?_; intro v' w2 hown' hgrow _; obtain ⟨ao, cap, rfl⟩ := ownsRow_form hown'; obtain ⟨hb2, d1, f1⟩ := kept_grown (heap_alloc _ hbk) hne hgrow))
  go_ret
  refine ⟨rfl, Or.inr (Lib.BuilderAt.put hBb hb2 ?_ (by decide)), ((hb1.alloc (by omega) _).grown hgrow (by simp; omega) (fun k hk => (hown.lt k hk).1)).setCell (p := ⟨b, 1, none⟩) hBb _⟩
  rw [u8s_length l, u8s_length (l ++ [c]), List.length_append, u8s_snoc]
  rw [u8s_length l] at hown'
  exact hown'
set_option maxHeartbeats 1000000 in
set_option maxRecDepth 100000 in
theorem writeString_any (B b : Nat) (l : List Nat) (s : ByteArray) (w : World) (h : Bld B b l w) (hl : l.length + s.size ≤ 1000000) (hB : B ≤ w.heap.size) :
    Calls Try.prog 21 #[.pointer (some ⟨b, 0, none⟩), .string s] w fun e w' => e = .returned (.tuple #[.int .i64 (s.size : Int), .nilIface]) ∧ Bld B b (l ++ bts s) w' ∧ Below B w w' := by
  obtain ⟨i0, hi0, hz0, hz1, hz2⟩ := info_parts infoU8
  have H := Lib.hid h
  clear h
  go_enter Try.func21, Try.ntmps21
  go_wp2_with (first
    | (go_at_call 24; (with_reducible refine (copyCheck_any B b l _ H.out).mono ?_); rintro e w1 ⟨rfl, h1, hb1⟩; obtain ⟨hBb, v, hbk, hown, hne⟩ := h1; have hz1' := hb1.size; have hlt := Lib.BuilderAt.lt ⟨hBb, v, hbk, hown, hne⟩; have c1 : w1.cell? ⟨b, 1, none⟩ = some v := by (rw [Lib.cell_of_heap hbk]; rfl))
    | (at_builtin; refine Lib.wpList_append_own_string _ rfl _ _ 30 9 rfl B 5 i0 Try.underlying30 Try.underlying9 hi0 hz0 hz1 hz2 _ _ _ rfl hown s rfl (by rw [u8s_length]; unfold maxLen; omega) (by rw [u8s_length]; omega) (by omega) ?_; intro v' w2 hown' hgrow _; obtain ⟨ao, cap, rfl⟩ := ownsRow_form hown'; obtain ⟨hb2, d1, f1⟩ := kept_grown hbk hne hgrow))
  go_ret2
  refine ⟨rfl, Or.inr (Lib.BuilderAt.put hBb hb2 ?_ (by decide)), (hb1.grown hgrow (by omega) (fun k hk => (hown.lt k hk).1)).setCell (p := ⟨b, 1, none⟩) hBb _⟩
  rw [u8s_length l, u8s_length (l ++ bts s), List.length_append, u8s_append, bts_length, ← u8s_strCells]
  rw [u8s_length l] at hown'
  exact hown'
end Go.Proofs.Ytlcaclemogamdaa
