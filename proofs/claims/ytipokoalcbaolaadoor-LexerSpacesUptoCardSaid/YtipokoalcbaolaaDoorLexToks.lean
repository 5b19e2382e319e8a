/- The contracts of the reference's Next, whatever spacing comes first, and of its Tokens. -/
import Derived.Test.YtipokoalcbaolaaDoorLexNext
import Derived.Test.YtipokoalcbaolaaDoorLexTokMath
namespace Go.Proofs.YtipokoalcbaolaaDoor
open Go.RowKit
/-- What Next returns. -/
def NextIs (o : Except Nat (Tok × Nat)) (w : World) (e : Ending) (w' : World) : Prop :=
  match o with
  | .ok (t, n) => e = .returned (.tuple #[tokV t, .int .i64 (n : Int), .int .i64 (-1)]) ∧ Below w.heap.size w w'
  | .error k => e = .returned (.tuple #[tok0, .int .i64 0, .int .i64 (k : Int)]) ∧ Below w.heap.size w w'
theorem NextIs.bad {o : Except Nat (Tok × Nat)} {w w' : World} {k : Nat} {x : Int} (h : o = .error k) (hx : x = k) (hb : Below w.heap.size w w') :
    NextIs o w (.returned (.tuple #[.agg #[.int .i64 0, .int .i64 0, .string ⟨#[]⟩, .int .u64 0, .int .u64 0, .int .u64 0, .int .u64 0], .int .i64 0, .int .i64 x])) w' := by
  subst h hx; exact ⟨rfl, hb⟩
set_option maxHeartbeats 1000000 in
set_option maxRecDepth 100000 in
theorem rnext_any (s : ByteArray) (p : Nat) (w : World) (hs : s.size ≤ 1050000) (hp : p ≤ s.size) :
    Calls Tryd.prog 13 #[.string s, .int .i64 (p : Int)] w (NextIs (nextL (bts s) p) w) := by
  have hs' : s.size ≤ 2000000 := by omega
  have hle := skipL_le _ ((bts s).drop p) (Nat.le_refl _)
  rw [List.length_drop, bts_length] at hle
  cases hok : (skipL ((bts s).drop p)).2
  · have hq : nextL (bts s) p = .error (p + (skipL ((bts s).drop p)).1) := by unfold nextL; rw [hok]; rfl
    generalize hk : (skipL ((bts s).drop p)).1 = n at hq hle
    have hsk : ∀ w, Calls Tryd.prog 23 #[.string s, .int .i64 (p : Int)] w fun e w' => e = .returned (.tuple #[.int .i64 ((p + n : Nat) : Int), .bool false]) ∧ w' = w := fun w => by
      have := rskip_any s p w hs' hp
      unfold SkipIs at this
      rw [hok, hk] at this
      exact this
    have HS := Lib.hid hsk
    have HQ := Lib.hid hq
    clear hsk hok hk hq
    go_enter Tryd.func13, Tryd.ntmps13
    go_wp2_with (go_at_call 23; (with_reducible refine (HS.out _).mono ?_); rintro e w' ⟨rfl, hw⟩; obtain rfl := hw.symm; clear hw)
    refine bodyPost_ret (v := .tuple #[.agg #[.int .i64 0, .int .i64 0, .string ⟨#[]⟩, .int .u64 0, .int .u64 0, .int .u64 0, .int .u64 0], .int .i64 0, .int .i64 ((p : Int) + (n : Int))]) (by simp [results, Tryd.results13, go_sem]) rfl (NextIs.bad HQ.out (by omega) ?_)
    exact (Below.refl _ w).alloc (Nat.le_refl _) _
  · generalize hk : (skipL ((bts s).drop p)).1 = n at hle
    have hsk : ∀ w, Calls Tryd.prog 23 #[.string s, .int .i64 (p : Int)] w fun e w' => e = .returned (.tuple #[.int .i64 ((p + n : Nat) : Int), .bool true]) ∧ w' = w := fun w => by
      have := rskip_any s p w hs' hp
      unfold SkipIs at this
      rw [hok, hk] at this
      exact this
    have h := rnext_tok s p (p + n) w hs (by omega) (Lib.hid hsk)
    have hq : nextL (bts s) p = match tokL (p + n) ((bts s).drop (p + n)) with | some x => .ok x | none => .error (p + n) := by
      unfold nextL; rw [hok, hk]; rfl
    rw [hq]
    refine h.mono fun e w' hh => ?_
    cases ht : tokL (p + n) ((bts s).drop (p + n)) with
    | none => rw [ht] at hh; exact hh
    | some x => rw [ht] at hh; exact hh
/-- The cells of a token, and of some tokens. -/
def tokC (t : Tok) : List Value := [.int .i64 (t.kind : Int), .int .i64 (t.at_ : Int), .string (strOf t.text), .int .u64 (setW (inRs t.rs) 0), .int .u64 (setW (inRs t.rs) 1), .int .u64 (setW (inRs t.rs) 2), .int .u64 (setW (inRs t.rs) 3)]
def toksC (ts : List Tok) : List Value := ts.flatMap tokC
theorem toksC_snoc (ts : List Tok) (t : Tok) : toksC (ts ++ [t]) = toksC ts ++ tokC t := by unfold toksC; rw [List.flatMap_append]; simp
/-- What Tokens returns. -/
def ToksIs (o : Except Nat (List Tok)) (w : World) (e : Ending) (w' : World) : Prop :=
  match o with
  | .error k => e = .returned (.tuple #[.slice none 0 0, .int .i64 (k : Int)]) ∧ Below w.heap.size w w'
  | .ok ts => ∃ v, e = .returned (.tuple #[v, .int .i64 (-1)]) ∧ w'.ownsRow w.heap.size 36 7 v ts.length (toksC ts) ∧ Below w.heap.size w w'
theorem ToksIs.bad {o : Except Nat (List Tok)} {w w' : World} {k : Nat} (h : o = .error k) (hb : Below w.heap.size w w') : ToksIs o w (.returned (.tuple #[.slice none 0 0, .int .i64 (k : Int)])) w' := by
  subst h; exact ⟨rfl, hb⟩
theorem ToksIs.good {o : Except Nat (List Tok)} {w w' : World} {v : Value} {ts : List Tok} (h : o = .ok ts) (hs : w'.ownsRow w.heap.size 36 7 v ts.length (toksC ts)) (hb : Below w.heap.size w w') : ToksIs o w (.returned (.tuple #[v, .int .i64 (-1)])) w' := by
  subst h; exact ⟨v, rfl, hs, hb⟩
theorem infoTok : (Tryd.prog.info? 36).map (fun i => (i.zero, i.size, i.bytes)) = some (some (.agg #[.int .i64 0, .int .i64 0, .string ⟨#[]⟩, .int .u64 0, .int .u64 0, .int .u64 0, .int .u64 0]), 7, 64) := by kernel_rfl
theorem rnext_bad (s : ByteArray) (p k : Nat) (w : World) (hs : s.size ≤ 1050000) (hp : p ≤ s.size) (h : nextL (bts s) p = .error k) :
    Calls Tryd.prog 13 #[.string s, .int .i64 (p : Int)] w fun e w' => e = .returned (.tuple #[.agg #[.int .i64 0, .int .i64 0, .string ⟨#[]⟩, .int .u64 0, .int .u64 0, .int .u64 0, .int .u64 0], .int .i64 0, .int .i64 (k : Int)]) ∧ Below w.heap.size w w' := by
  have := rnext_any s p w hs hp
  unfold NextIs at this
  rw [h] at this
  exact this
theorem rnext_ok (s : ByteArray) (p : Nat) (t : Tok) (n : Nat) (w : World) (hs : s.size ≤ 1050000) (hp : p ≤ s.size) (h : nextL (bts s) p = .ok (t, n)) :
    Calls Tryd.prog 13 #[.string s, .int .i64 (p : Int)] w fun e w' => e = .returned (.tuple #[.agg #[.int .i64 (t.kind : Int), .int .i64 (t.at_ : Int), .string (strOf t.text), .int .u64 (setW (inRs t.rs) 0), .int .u64 (setW (inRs t.rs) 1), .int .u64 (setW (inRs t.rs) 2), .int .u64 (setW (inRs t.rs) 3)], .int .i64 (n : Int), .int .i64 (-1)]) ∧ Below w.heap.size w w' := by
  have := rnext_any s p w hs hp
  unfold NextIs at this
  rw [h] at this
  exact this
theorem cell_seven_new (w : World) (l : List Value) (t : TypeId) : ∀ j u, l[j]? = some u → (w.alloc (.cells l.toArray t)).cell? ((⟨w.heap.size, 0, none⟩ : Addr).add j) = some u := by
  intro j u hj
  rw [Addr.add_lit]
  have hb : (w.alloc (.cells l.toArray t)).heap[w.heap.size]? = some (.cells l.toArray t) := heap_alloc_new w _
  rw [Nat.zero_add, Lib.cell_of_heap hb]
  simpa using hj
theorem cell_seven_two (w : World) (o : Obj) (l : List Value) (t : TypeId) : ∀ j u, l[j]? = some u → ((w.alloc o).alloc (.cells l.toArray t)).cell? ((⟨w.heap.size + 1, 0, none⟩ : Addr).add j) = some u := by
  have := cell_seven_new (w.alloc o) l t
  rw [World.size_alloc] at this
  exact this
theorem tok_kept {w1 w2 : World} {l : Array Value} {t : TypeId} {o : Obj} {v x : Value} {base n : Nat} {xs : List Value} (hs1 : w1.ownsRow base t 7 v n xs) (hg : ((w1.alloc (.cells l t)).alloc o).grownBy w2 v.ownBlock) (h0 : l[0]? = some x) : w2.cell? ⟨w1.heap.size, 0, none⟩ = some x := by
  have h1 : ((w1.alloc (.cells l t)).alloc o).heap[w1.heap.size]? = some (.cells l t) := by
    rw [Below.heap_alloc _ _ _ (by rw [World.size_alloc]; exact Nat.lt_succ_self _)]
    exact heap_alloc_new w1 _
  have h2 : w2.heap[w1.heap.size]? = some (.cells l t) := by
    rw [hg.block _ (by rw [World.size_alloc, World.size_alloc]; omega) (fun e => by have := (hs1.lt _ e.symm).2; omega)]
    exact h1
  rw [Lib.cell_of_heap h2]
  exact h0
set_option maxHeartbeats 2000000 in
set_option maxRecDepth 100000 in
theorem rtokens_any (s : ByteArray) (w : World) (hs : s.size ≤ 1050000) :
    Calls Tryd.prog 10 #[.string s] w (ToksIs (toksL (bts s) 0) w) := by
  obtain ⟨i0, hi0, hz0, hz1, hz2⟩ := info_parts infoTok
  have HB0 := Lib.hid (Below.refl w.heap.size w)
  go_enter Tryd.func10, Tryd.ntmps10
  go_wp2
  go_loopw [4, 5] (fun v c wr => ∃ (k : Nat) (acc : List Tok), k ≤ s.size ∧ c = .int .i64 k ∧ wr.ownsRow w.heap.size 36 7 v acc.length (toksC acc) ∧ Below w.heap.size w wr ∧ acc.length ≤ k ∧ toksL (bts s) 0 = (toksL (bts s) k).map (acc ++ ·)) (fun _ c _ => s.size - (intOf c).toNat)
  case atStart => exact ⟨0, [], Nat.zero_le _, rfl, World.ownsRow_nil _ _ _ _, HB0.out, Nat.le_refl _, by cases toksL (bts s) 0 <;> rfl⟩
  case round =>
    obtain ⟨k, acc, hk, rfl, hs3, hb, hac, hu⟩ := hrel
    have HU := Lib.hid hu
    have hsz := hb.size
    clear hu
    cases hn : nextL (bts s) k with
    | error b =>
      have hr : toksL (bts s) 0 = .error b := by rw [HU.out, toksL_bad hn]; rfl
      have HR := Lib.hid hr
      have HN := Lib.hid hn
      have b0 : 0 ≤ (b : Int) := by omega
      clear hr hn
      go_wp2_with (go_at_call 13; (with_reducible refine (rnext_bad s k b _ hs hk HN.out).mono ?_); rintro e w1 ⟨rfl, hb1⟩; have HB1 := Lib.hid (hb.trans (hb1.mono hsz)); have hsz1 := hb1.size; clear hb1)
      go_ret2
      exact ToksIs.bad HR.out (HB1.out.alloc (by omega) _)
    | ok x =>
      obtain ⟨t, n⟩ := x
      have hm := nextL_moves (bts s) k (by rw [bts_length]; exact hk) t n hn
      rw [bts_length] at hm
      have HN := Lib.hid hn
      by_cases ht : t.kind = 0
      · have hr : toksL (bts s) 0 = .ok (acc ++ [t]) := by rw [HU.out, toksL_end hn ht]; rfl
        have HR := Lib.hid hr
        have ht0 : ((t.kind : Int) == 0) = true := by rw [beq_iff_eq]; omega
        clear hr hn hm ht
        go_wp2_with (first
          | (go_at_call 13; (with_reducible refine (rnext_ok s k t n _ hs hk HN.out).mono ?_); rintro e w1 ⟨rfl, hb1⟩; have hs1 := ownsRow_grown hs3 hb1; have hB1 := hb.trans (hb1.mono hsz); have hsz1 := hb1.size; clear hb1)
          | (at_builtin; refine wpList_append_own _ rfl _ _ 28 rfl w.heap.size 36 i0 (.agg #[.int .i64 0, .int .i64 0, .string ⟨#[]⟩, .int .u64 0, .int .u64 0, .int .u64 0, .int .u64 0]) 7 64 Tryd.underlying28 hi0 hz0 hz1 hz2 rfl (by decide) _ _ _ rfl ((hs1.alloc _).alloc _) ⟨w1.heap.size + 1, 0, none⟩ 1 1 (tokC t) rfl rfl (cell_seven_two w1 (.cells (tokC t).toArray 36) (tokC t) 36) (by simp [tokC, Value.oneCell']) (by unfold maxLen; omega) (by omega) (by simp; omega) ?_; intro v' w2 hown' hgrow _; have hkc := tok_kept hs1 hgrow rfl))
        have hB2 := ((hB1.alloc (by omega) _).alloc (by simp; omega) _).grown hgrow (by simp; omega) (fun k e => (hs1.lt k e).1)
        rw [← toksC_snoc] at hown'
        go_ret2
        exact ToksIs.good HR.out (by simpa using hown') hB2
      · have hmv : k < n ∧ n ≤ s.size := by
          rcases hm with h | h
          · exact absurd h.1 ht
          · exact h.2
        have hr : toksL (bts s) 0 = (toksL (bts s) n).map ((acc ++ [t]) ++ ·) := by rw [HU.out, toksL_step hn ht (by rw [bts_length]; exact hmv), toksL_map]
        have HR := Lib.hid hr
        have ht0 : ((t.kind : Int) == 0) = false := by rw [beq_eq_false_iff_ne]; omega
        clear hr hn hm
        go_wp2_with (first
          | (go_at_call 13; (with_reducible refine (rnext_ok s k t n _ hs hk HN.out).mono ?_); rintro e w1 ⟨rfl, hb1⟩; have hs1 := ownsRow_grown hs3 hb1; have hB1 := hb.trans (hb1.mono hsz); have hsz1 := hb1.size; clear hb1)
          | (at_builtin; refine wpList_append_own _ rfl _ _ 28 rfl w.heap.size 36 i0 (.agg #[.int .i64 0, .int .i64 0, .string ⟨#[]⟩, .int .u64 0, .int .u64 0, .int .u64 0, .int .u64 0]) 7 64 Tryd.underlying28 hi0 hz0 hz1 hz2 rfl (by decide) _ _ _ rfl ((hs1.alloc _).alloc _) ⟨w1.heap.size + 1, 0, none⟩ 1 1 (tokC t) rfl rfl (cell_seven_two w1 (.cells (tokC t).toArray 36) (tokC t) 36) (by simp [tokC, Value.oneCell']) (by unfold maxLen; omega) (by omega) (by simp; omega) ?_; intro v' w2 hown' hgrow _; have hkc := tok_kept hs1 hgrow rfl))
        have hB2 := ((hB1.alloc (by omega) _).alloc (by simp; omega) _).grown hgrow (by simp; omega) (fun k e => (hs1.lt k e).1)
        rw [← toksC_snoc] at hown'
        exact ⟨⟨n, acc ++ [t], hmv.2, by go_num, by simpa using hown', hB2, by simp; omega, HR.out⟩, by simp [intOf]; omega⟩
end Go.Proofs.YtipokoalcbaolaaDoor
