/- The fixed examples that every statement on characters checks first: they are as documented. -/
import Derived.Test.YtlcaclemogamdaaLitWalk
import Derived.Test.YtlcaclemogamdaaUnqWalk
import Derived.Lib.SlBytesConst
namespace Go.Proofs.Ytlcaclemogamdaa
open Go.RowKit
theorem RowAt.of_owns {w : World} {base : Nat} {t : TypeId} {v : Value} {n : Nat} {cs : List Value} (h : w.ownsRow base t 1 v n cs) (hn : cs.length = n) : RowAt w v cs := by
  subst hn
  have h' := h
  obtain ⟨-, ⟨rfl, h0⟩ | ⟨g, cap, cur, rfl, -⟩⟩ := h'
  · exact ⟨none, 0, by rw [h0], .inl (List.length_eq_zero_iff.1 h0)⟩
  · refine ⟨_, cap, rfl, .inr ⟨g, 0, rfl, fun i c hc => ?_⟩⟩
    have := h.cells rfl i c hc
    rw [Addr.add_lit] at this; exact this
theorem conv_row {w : World} {v : Value} {l : List Nat} (h : RowAt w v (u8s l)) (hl : ∀ x, x ∈ l → x < 256) : (convert 30 9 v).run Try.prog w = .ok (.string (strOf l)) w := by
  obtain ⟨a, cap, rfl, h⟩ := h
  rcases h with h0 | ⟨b, off, rfl, hc⟩
  · have : l = [] := List.map_eq_nil_iff.1 h0
    subst this
    cases a with
    | none => exact Lib.run_convert_nil_bytes w _ _ _ cap Try.underlying30 Try.underlying5 Try.underlying9
    | some a => exact run_convert_bytes_back w _ _ _ a cap [] Try.underlying30 Try.underlying5 Try.underlying9 (fun j hj => absurd hj (by simp))
  · have hlen : (u8s l).length = (l.map UInt8.ofNat).length := by rw [u8s_length, List.length_map]
    rw [hlen]
    refine run_convert_bytes_back w _ _ _ ⟨b, off, none⟩ cap (l.map UInt8.ofNat) Try.underlying30 Try.underlying5 Try.underlying9 (fun j hj => ?_)
    rw [Addr.add_lit]
    have hj' : j < l.length := by simpa using hj
    have := hc j (.int .u8 ((l[j] : Nat) : Int)) (by unfold u8s; rw [List.getElem?_map, List.getElem?_eq_getElem hj']; rfl)
    rw [this]
    congr 2
    rw [List.getElem_map]
    have := hl _ (List.getElem_mem hj')
    simp; omega
theorem eunq_some (s : ByteArray) (l : List Nat) (w : World) (hz : s.size ≤ 1000000) (h : unquoteL (bts s) = some l) :
    Calls Try.prog 14 #[.string s] w fun e w' => ∃ v, e = .returned (.tuple #[v, .bool true]) ∧ RowAt w' v (u8s l) ∧ Below w.heap.size w w' := by
  have := unquote_any s w hz
  unfold UnqIs at this
  rw [h] at this
  exact this.mono fun e w' ⟨v, h1, h2, h3⟩ => ⟨v, h1, RowAt.of_owns h2 (u8s_length _), h3⟩
theorem eunq_none (s : ByteArray) (w : World) (hz : s.size ≤ 1000000) (h : unquoteL (bts s) = none) :
    Calls Try.prog 14 #[.string s] w fun e w' => ∃ v, e = .returned (.tuple #[v, .bool false]) ∧ RowAt w' v (u8s []) ∧ Below w.heap.size w w' := by
  have := unquote_any s w hz
  unfold UnqIs at this
  rw [h] at this
  exact this.mono fun e w' ⟨v, h1, h2, h3⟩ => ⟨v, h1, RowAt.of_owns h2 (u8s_length _), h3⟩
theorem runq_some (s : ByteArray) (l : List Nat) (w : World) (hz : s.size ≤ 1000000) (h : unquoteL (bts s) = some l) :
    Calls Try.prog 16 #[.string s] w fun e w' => ∃ v, e = .returned (.tuple #[v, .bool true]) ∧ RowAt w' v (u8s l) ∧ Below w.heap.size w w' := by
  have := runquote_any s w hz
  unfold UnqIs at this
  rw [h] at this
  exact this.mono fun e w' ⟨v, h1, h2, h3⟩ => ⟨v, h1, RowAt.of_owns h2 (u8s_length _), h3⟩
theorem runq_none (s : ByteArray) (w : World) (hz : s.size ≤ 1000000) (h : unquoteL (bts s) = none) :
    Calls Try.prog 16 #[.string s] w fun e w' => ∃ v, e = .returned (.tuple #[v, .bool false]) ∧ RowAt w' v (u8s []) ∧ Below w.heap.size w w' := by
  have := runquote_any s w hz
  unfold UnqIs at this
  rw [h] at this
  exact this.mono fun e w' ⟨v, h1, h2, h3⟩ => ⟨v, h1, RowAt.of_owns h2 (u8s_length _), h3⟩
theorem ex_quote : unquoteL (bts ⟨#[39, 97, 92, 39, 98, 39]⟩) = some [97, 39, 98] := by
  have e : bts ⟨#[39, 97, 92, 39, 98, 39]⟩ = [39, 97, 92, 39, 98, 39] := rfl
  rw [e]
  unfold unquoteL
  rw [if_pos (by decide)]
  show unq 39 [97, 92, 39, 98] = _
  rw [unq_step (c := 97) (n := 1) rfl (by decide)]
  show (unq 39 [92, 39, 98]).map _ = _
  rw [unq_step (c := 39) (n := 2) rfl (by decide)]
  show ((unq 39 [98]).map _).map _ = _
  rw [unq_step (c := 98) (n := 1) rfl (by decide)]
  show (((unq 39 []).map _).map _).map _ = _
  rw [unq_nil]; rfl
theorem ex_none : unquoteL (bts ⟨#[39, 97, 39, 98, 39]⟩) = none := by
  have e : bts ⟨#[39, 97, 39, 98, 39]⟩ = [39, 97, 39, 98, 39] := rfl
  rw [e]
  unfold unquoteL
  rw [if_pos (by decide)]
  show unq 39 [97, 39, 98] = _
  rw [unq_step (c := 97) (n := 1) rfl (by decide)]
  show (unq 39 [39, 98]).map _ = _
  rw [unq_quote]; rfl
theorem ex_read (w : World) : Calls Try.prog 9 #[.string ⟨#[92, 49, 48, 49, 120]⟩, .int .i64 0] w fun e w' => e = .returned (.tuple #[.int .u8 65, .int .i64 4, .bool true]) ∧ w' = w :=
  eread_yes ⟨#[92, 49, 48, 49, 120]⟩ 0 65 4 w (by decide) rfl
theorem ex_quoted (w : World) : Calls Try.prog 14 #[.string ⟨#[39, 97, 92, 39, 98, 39]⟩] w fun e w' => ∃ v, e = .returned (.tuple #[v, .bool true]) ∧ RowAt w' v (u8s [97, 39, 98]) ∧ Below w.heap.size w w' :=
  eunq_some _ _ w (by decide) ex_quote
theorem ex_unquoted (w : World) : Calls Try.prog 14 #[.string ⟨#[39, 97, 39, 98, 39]⟩] w fun e w' => ∃ v, e = .returned (.tuple #[v, .bool false]) ∧ RowAt w' v (u8s []) ∧ Below w.heap.size w w' :=
  eunq_none _ w (by decide) ex_none
theorem ex_literal (v : Value) (w : World) (h : RowAt w v (u8s [97, 39, 98])) : Calls Try.prog 13 #[v] w fun e w' => e = .returned (.string ⟨#[39, 97, 92, 39, 98, 39]⟩) ∧ Below w.heap.size w w' :=
  literal_any [97, 39, 98] v w h (by decide) (by decide)
theorem ex_form1 (w : World) : Calls Try.prog 11 #[.int .u8 192, .bool false] w fun e w' => e = .returned (.string ⟨#[192]⟩) ∧ Below w.heap.size w w' :=
  form_any 192 false w (by decide) (by decide)
theorem ex_form2 (w : World) : Calls Try.prog 11 #[.int .u8 45, .bool true] w fun e w' => e = .returned (.string ⟨#[92, 48, 53, 53]⟩) ∧ Below w.heap.size w w' :=
  form_any 45 true w (by decide) (by decide)
theorem row3_new (w : World) (x y z : Value) (t : TypeId) (fr : Nat × Nat) : RowAt (w.alloc (.cells #[x, y, z] t fr)) (.slice (some ⟨w.heap.size, 0, none⟩) 3 3) [x, y, z] :=
  ⟨_, 3, rfl, .inr ⟨w.heap.size, 0, rfl, fun i c hc => by
    have hb : (w.alloc (.cells #[x, y, z] t fr)).heap[w.heap.size]? = some (.cells #[x, y, z] t fr) := heap_alloc_new w _
    rw [Nat.zero_add, Lib.cell_of_heap hb]; simpa using hc⟩⟩
theorem conv_ex {w : World} {v : Value} (h : RowAt w v (u8s [97, 39, 98])) : (convert 30 9 v).run Try.prog w = .ok (.string ⟨#[97, 39, 98]⟩) w := conv_row h (by decide)
set_option maxHeartbeats 2000000 in
set_option maxRecDepth 100000 in
theorem awake_at : AwakeAt := by
  intro w
  have hB : Below w.heap.size w w := Below.refl _ _
  have k0 := fun (w : World) (C : Array Value) (n c : Nat) => Lib.run_convert_bytes_const (P := Try.prog) w 30 5 C n c Try.underlying30 Try.underlying5
  go_enter Try.func8, Try.ntmps8
  go_wp2_with (first
    | (go_at_call 9; (with_reducible refine (ex_read _).mono ?_); rintro e w1 ⟨rfl, hw⟩; obtain rfl := hw.symm; clear hw)
    | (go_at_call 14; (with_reducible refine (ex_quoted _).mono ?_); rintro e w2 ⟨v, rfl, hv, hb⟩; replace hB := hB.trans (hb.mono hB.size); clear hb)
    | (go_at_call 14; (with_reducible refine (ex_unquoted _).mono ?_); rintro e w3 ⟨u, rfl, hu, hb⟩; replace hv := hv.below hb (Nat.le_refl _); replace hB := hB.trans (hb.mono hB.size); clear hb)
    | (go_at_call 13; refine (ex_literal _ _ (row3_new _ _ _ _ _ _)).mono ?_; rintro e w4 ⟨rfl, hb⟩; replace hv := (hv.below ((Below.refl _ _).alloc (Nat.le_refl _) _) (Nat.le_refl _)).below hb (Nat.le_refl _); replace hB := (hB.alloc hB.size _).trans (hb.mono (by have := hB.size; simp; omega)); clear hb; have hcv := conv_ex hv)
    | (go_at_call 11; (with_reducible refine (ex_form1 _).mono ?_); rintro e w5 ⟨rfl, hb⟩; replace hB := hB.trans (hb.mono hB.size); clear hb)
    | (go_at_call 11; (with_reducible refine (ex_form2 _).mono ?_); rintro e w6 ⟨rfl, hb⟩; replace hB := hB.trans (hb.mono hB.size); clear hb))
  go_ret
  exact ⟨rfl, hB⟩
end Go.Proofs.Ytlcaclemogamdaa
