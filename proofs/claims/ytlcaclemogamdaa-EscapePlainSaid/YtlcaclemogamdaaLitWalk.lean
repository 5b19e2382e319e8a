/- The contracts of the program's Literal and of the reference's Literal. -/
import Derived.Test.YtlcaclemogamdaaBldString
namespace Go.Proofs.Ytlcaclemogamdaa
open Go.RowKit
/-- v is a slice that holds the values cs in the world w. -/
def RowAt (w : World) (v : Value) (cs : List Value) : Prop := ∃ a cap, v = .slice a cs.length cap ∧ (cs = [] ∨ ∃ b off, a = some ⟨b, off, none⟩ ∧ ∀ i c, cs[i]? = some c → w.cell? ⟨b, off + i, none⟩ = some c)
theorem bcell {n : Nat} {W w1 : World} (hb : Below n W w1) : (∀ b o, b < n → w1.cell? ⟨b, o, none⟩ = W.cell? ⟨b, o, none⟩) ∧ (∀ b o, b < n → w1.frozen? ⟨b, o, none⟩ = W.frozen? ⟨b, o, none⟩) :=
  ⟨fun b o h => hb.cell (p := ⟨b, o, none⟩) h, fun b o h => hb.frozen (p := ⟨b, o, none⟩) h⟩
theorem lt_of_cell {w : World} {b o : Nat} {v : Value} (h : w.cell? ⟨b, o, none⟩ = some v) : b < w.heap.size := by
  rcases Nat.lt_or_ge b w.heap.size with h' | h'
  · exact h'
  · simp [World.cell?, Array.getElem?_eq_none h'] at h
theorem RowAt.below {n : Nat} {w w' : World} {v : Value} {cs : List Value} (h : RowAt w v cs) (hb : Below n w w') (hn : w.heap.size ≤ n) : RowAt w' v cs := by
  obtain ⟨a, cap, rfl, h⟩ := h
  rcases h with h | ⟨b, off, rfl, hc⟩
  · exact ⟨a, cap, rfl, .inl h⟩
  · exact ⟨_, cap, rfl, .inr ⟨b, off, rfl, fun i c hi => by have := lt_of_cell (hc i c hi); rw [(bcell hb).1 _ _ (by omega)]; exact hc i c hi⟩⟩
/-- The forms of bytes in a literal. -/
def formsL (l : List Nat) : List Nat := l.flatMap fun c => formL c false
def litL (l : List Nat) : List Nat := 39 :: formsL l ++ [39]
theorem formsL_snoc (l : List Nat) (c : Nat) : formsL (l ++ [c]) = formsL l ++ formL c false := by unfold formsL; rw [List.flatMap_append]; simp
theorem formL_len (c : Nat) (cl : Bool) : (formL c cl).length ≤ 4 := by
  unfold formL
  split
  · decide
  split
  · decide
  split
  · decide
  split
  · exact (by decide : 2 ≤ 4)
  split
  · exact Nat.le_refl 4
  · exact (by decide : 1 ≤ 4)
theorem formsL_len : ∀ l : List Nat, (formsL l).length ≤ 4 * l.length
  | [] => Nat.le_refl _
  | c :: l => by
    have h1 := formL_len c false
    have h2 := formsL_len l
    have e : formsL (c :: l) = formL c false ++ formsL l := rfl
    rw [e, List.length_append, List.length_cons]; omega
theorem formsL_lt (l : List Nat) (h : ∀ x, x ∈ l → x < 256) : ∀ x, x ∈ formsL l → x < 256 := by
  intro x hx
  obtain ⟨c, hc, hx⟩ := List.mem_flatMap.1 hx
  exact formL_lt c false (h c hc) x hx
theorem litL_lt (l : List Nat) (h : ∀ x, x ∈ l → x < 256) : ∀ x, x ∈ litL l → x < 256 := by
  intro x hx
  unfold litL at hx
  rw [List.mem_append, List.mem_cons] at hx
  rcases hx with (rfl | hx) | hx
  · decide
  · exact formsL_lt l h x hx
  · rw [List.mem_singleton] at hx; subst hx; decide
theorem take_snoc' {α : Type} (l : List α) (k : Nat) (x : α) (h : l[k]? = some x) : l.take (k + 1) = l.take k ++ [x] := by
  obtain ⟨h1, h2⟩ := List.getElem?_eq_some_iff.1 h
  rw [List.take_succ_eq_append_getElem h1, h2]
theorem writeQuote (B b : Nat) (l : List Nat) (w : World) (h : Bld B b l w) (hl : l.length ≤ 1000000) (hB : B ≤ w.heap.size) :
    Calls Try.prog 20 #[.pointer (some ⟨b, 0, none⟩), .int .u8 39] w fun e w' => e = .returned .nilIface ∧ Bld B b (l ++ [39]) w' ∧ Below B w w' := writeByte_any B b l 39 w h hl hB
theorem eformN (c : Nat) (w : World) (h1 : c < 256) :
    Calls Try.prog 11 #[.int .u8 (c : Int), .bool false] w fun e w' => e = .returned (.string (strOf (formL c false))) ∧ Below w.heap.size w w' := form_any (c : Int) false w (by omega) (by omega)
theorem rformN (c : Nat) (w : World) (h1 : c < 256) :
    Calls Try.prog 12 #[.int .u8 (c : Int), .bool false] w fun e w' => e = .returned (.string (strOf (formL c false))) ∧ Below w.heap.size w w' := rform_any (c : Int) false w (by omega) (by omega)
theorem writeForm (B b : Nat) (l : List Nat) (c : Nat) (w : World) (hc : c < 256) (h : Bld B b l w) (hl : l.length ≤ 900000) (hB : B ≤ w.heap.size) :
    Calls Try.prog 21 #[.pointer (some ⟨b, 0, none⟩), .string (strOf (formL c false))] w fun e w' => (∃ n : Int, e = .returned (.tuple #[.int .i64 n, .nilIface])) ∧ Bld B b (l ++ formL c false) w' ∧ Below B w w' := by
  have hz := formL_len c false
  have h := writeString_any B b l (strOf (formL c false)) w h (by rw [strOf_size]; omega) hB
  rw [bts_form c false hc] at h
  exact h.mono fun e w' ⟨h1, h2, h3⟩ => ⟨⟨_, h1⟩, h2, h3⟩
theorem Bld.grown {B b : Nat} {l : List Nat} {w w' : World} (h : Bld B b l w) (hb : Below w.heap.size w w') : Bld B b l w' := by
  rcases h with h | h
  · left
    obtain ⟨hB, v, hbk, hown, hne⟩ := h
    have hlt := Lib.BuilderAt.lt ⟨hB, v, hbk, hown, hne⟩
    exact ⟨hB, v, by rw [hb.block b hlt]; exact hbk, ownsRow_grown hown hb, hne⟩
  · right
    obtain ⟨hB, v, hbk, hown, hne⟩ := h
    have hlt := Lib.BuilderAt.lt ⟨hB, v, hbk, hown, hne⟩
    exact ⟨hB, v, by rw [hb.block b hlt]; exact hbk, ownsRow_grown hown hb, hne⟩
set_option maxHeartbeats 1000000 in
theorem literal_any (l : List Nat) (v : Value) (w : World) (hv : RowAt w v (u8s l)) (hl : ∀ x, x ∈ l → x < 256) (hn : l.length ≤ 10000) :
    Calls Try.prog 13 #[v] w fun e w' => e = .returned (.string (strOf (litL l))) ∧ Below w.heap.size w w' := by
  obtain ⟨a, cap, rfl, hcs⟩ := hv
  rw [u8s_length]
  have HC := Lib.hid hcs
  have HL := Lib.hid hl
  clear hcs hl
  have h0 : Bld w.heap.size w.heap.size [] (w.alloc (.cells #[.pointer none, .slice none 0 0] 43)) := Lib.fresh_isBuilder 43 5 w
  have H0 := Lib.hid h0
  clear h0
  have hb0 : Below w.heap.size w (w.alloc (.cells #[.pointer none, .slice none 0 0] 43)) := (Below.refl _ w).alloc (Nat.le_refl _) _
  have HB0 := Lib.hid hb0
  clear hb0
  go_enter Try.func13, Try.ntmps13
  go_wp2_with (go_at_call 20; (with_reducible refine (writeQuote w.heap.size w.heap.size [] _ H0.out (by simp) (by simp)).mono ?_); rintro e w1 ⟨rfl, h1, hb1⟩; have HW := Lib.hid h1; have HB := Lib.hid (HB0.out.trans hb1); clear h1 hb1)
  go_loopw [9] (fun c wr => ∃ k : Nat, k ≤ l.length ∧ c = .int .i64 k ∧ Bld w.heap.size w.heap.size (39 :: formsL (l.take k)) wr ∧ Below w.heap.size w wr) (fun c _ => (l.length - (intOf c).toNat))
  case atStart => exact ⟨0, Nat.zero_le _, rfl, HW.out, HB.out⟩
  case round =>
    obtain ⟨k, hk, rfl, hs, hb⟩ := hrel
    have hz := hb.size
    by_cases hlt : k < l.length
    · obtain ⟨x, hx⟩ : ∃ x, l[k]? = some x := ⟨l[k], by simp [hlt]⟩
      have hx1 := HL.out x (List.mem_of_getElem? hx)
      obtain ⟨b, off, rfl, hcell⟩ := HC.out.resolve_left (by intro h; have := congrArg List.length h; rw [u8s_length, List.length_nil] at this; omega)
      have hc0 := hcell k (.int .u8 x) (by unfold u8s; rw [List.getElem?_map, hx]; rfl)
      have hblk := lt_of_cell hc0
      have hc1 : wr.cell? ⟨b, off + k, none⟩ = some (.int .u8 x) := by
        rw [(bcell hb).1 b _ hblk]; exact hc0
      have ht := Lib.hid (take_snoc' l k _ hx)
      have hfl : (39 :: formsL (l.take k)).length ≤ 900000 := by
        have h1 := formsL_len (l.take k)
        rw [List.length_take] at h1
        rw [List.length_cons]; omega
      have HF := Lib.hid hfl
      have HS := Lib.hid hs
      clear hc0 hcell hx hfl hs
      go_wp2_with (first
        | (go_at_call 11; (with_reducible refine (eformN x _ hx1).mono ?_); rintro e w2 ⟨rfl, hb2⟩; have HS2 := Lib.hid (Bld.grown HS.out hb2); have HB2 := Lib.hid (hb.trans (hb2.mono hz)); have hz2 := hb2.size; clear hb2)
        | (go_at_call 21; (with_reducible refine (writeForm w.heap.size w.heap.size _ x _ hx1 HS2.out HF.out (by omega)).mono ?_); rintro e w3 ⟨⟨n, rfl⟩, h3, hb3⟩; have HS3 := Lib.hid h3; have HB3 := Lib.hid (HB2.out.trans hb3); clear h3 hb3))
      exact ⟨⟨k + 1, by omega, by go_num, by rw [ht.out, formsL_snoc]; exact HS3.out, HB3.out⟩, by simp [intOf]; omega⟩
    · have e : l.take k = l := List.take_of_length_le (by omega)
      rw [e] at hs
      have hfl : (39 :: formsL l).length ≤ 1000000 := by
        have h1 := formsL_len l
        rw [List.length_cons]; omega
      have HF := Lib.hid hfl
      have HS := Lib.hid hs
      have HT := Lib.hid (litL_lt l HL.out)
      clear e hs hfl
      go_wp2_with (first
        | (go_at_call 20; (with_reducible refine (writeQuote w.heap.size w.heap.size _ _ HS.out HF.out hz).mono ?_); rintro e w2 ⟨rfl, h2, hb2⟩; have HS2 := Lib.hid h2; have HB2 := Lib.hid (hb.trans hb2); have hz2 := hb2.size; clear h2 hb2)
        | (go_at_call 22; refine (bldString_any w.heap.size w.heap.size (litL l) _ HS2.out HT.out (by omega)).mono ?_; rintro e w3 ⟨rfl, hb3⟩; have HB3 := Lib.hid (HB2.out.trans hb3); clear hb3))
      go_ret
      exact ⟨rfl, HB3.out⟩
set_option maxHeartbeats 1000000 in
theorem rliteral_any (l : List Nat) (v : Value) (w : World) (hv : RowAt w v (u8s l)) (hl : ∀ x, x ∈ l → x < 256) (hn : l.length ≤ 10000) :
    Calls Try.prog 15 #[v] w fun e w' => e = .returned (.string (strOf (litL l))) ∧ Below w.heap.size w w' := by
  obtain ⟨a, cap, rfl, hcs⟩ := hv
  rw [u8s_length]
  have HC := Lib.hid hcs
  have HL := Lib.hid hl
  clear hcs hl
  have HB0 := Lib.hid (Below.refl w.heap.size w)
  go_enter Try.func15, Try.ntmps15
  go_wp2
  go_loopw [3, 4] (fun u c wr => ∃ (k : Nat) (s : ByteArray), k ≤ l.length ∧ c = .int .i64 k ∧ u = .string s ∧ s = strOf (39 :: formsL (l.take k)) ∧ Below w.heap.size w wr) (fun _ c _ => (l.length - (intOf c).toNat))
  case atStart => exact ⟨0, strOf [39], Nat.zero_le _, rfl, rfl, rfl, HB0.out⟩
  case round =>
    obtain ⟨k, s, hk, rfl, rfl, hs, hb⟩ := hrel
    have hz := hb.size
    have hsz : s.size ≤ 100000 := by
      have h1 := formsL_len (l.take k)
      rw [List.length_take] at h1
      rw [hs, strOf_size, List.length_cons]; omega
    have HS := Lib.hid hs
    clear hs
    by_cases hlt : k < l.length
    · obtain ⟨x, hx⟩ : ∃ x, l[k]? = some x := ⟨l[k], by simp [hlt]⟩
      have hx1 := HL.out x (List.mem_of_getElem? hx)
      obtain ⟨b, off, rfl, hcell⟩ := HC.out.resolve_left (by intro h; have := congrArg List.length h; rw [u8s_length, List.length_nil] at this; omega)
      have hc0 := hcell k (.int .u8 x) (by unfold u8s; rw [List.getElem?_map, hx]; rfl)
      have hblk := lt_of_cell hc0
      have hc1 : wr.cell? ⟨b, off + k, none⟩ = some (.int .u8 x) := by
        rw [(bcell hb).1 b _ hblk]; exact hc0
      have ht := Lib.hid (take_snoc' l k _ hx)
      have hzf := formL_len x false
      have k1 : ∀ w, (Op.stringOp .add s (strOf (formL x false))).run Try.prog w = .ok (.string (s ++ strOf (formL x false))) w := fun w => run_string_add_sum w _ _ (by rw [strOf_size]; omega)
      clear hc0 hcell hx
      go_wp2_with (go_at_call 12; (with_reducible refine (rformN x _ hx1).mono ?_); rintro e w2 ⟨rfl, hb2⟩; have HB2 := Lib.hid (hb.trans (hb2.mono hz)); clear hb2)
      exact ⟨⟨k + 1, s ++ strOf (formL x false), by omega, by go_num, rfl, by rw [ht.out, formsL_snoc, HS.out, ← strOf_append]; rfl, HB2.out⟩, by simp [intOf]; omega⟩
    · have e : l.take k = l := List.take_of_length_le (by omega)
      have he : s ++ strOf [39] = strOf (litL l) := by rw [HS.out, e, ← strOf_append]; rfl
      have HE := Lib.hid he
      have k1 : ∀ w, (Op.stringOp .add s ⟨#[39]⟩).run Try.prog w = .ok (.string (s ++ ⟨#[39]⟩)) w := fun w => run_string_add_sum w _ _ (by show s.size + 1 ≤ _; omega)
      clear e he
      go_wp2
      go_ret
      exact ⟨congrArg (fun s => Ending.returned (.string s)) HE.out, hb⟩
end Go.Proofs.Ytlcaclemogamdaa
