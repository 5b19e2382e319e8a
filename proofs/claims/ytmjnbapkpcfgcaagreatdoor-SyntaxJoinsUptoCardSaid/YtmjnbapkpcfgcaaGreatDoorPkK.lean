/- The program's Next and Tokens. What the laws of the syntax need of the plain functions. No walk. The fixed examples of the syntax. No walk. -/
import Derived.Test.YtmjnbapkpcfgcaaGreatDoorPkJ
import Derived.Test.YtmjnbapkpcfgcaaGreatDoorPkC
import Derived.Test.YtmjnbapkpcfgcaaGreatDoorPkF
import Derived.Test.YtmjnbapkpcfgcaaGreatDoorPkH
import Derived.Test.YtmjnbapkpcfgcaaGreatDoorPkI
namespace Go.Proofs.YtmjnbapkpcfgcaaGreatDoor
section
open Go.RowKit
set_option maxHeartbeats 4000000 in
set_option maxRecDepth 100000 in
theorem ptok_lit (s : ByteArray) (k : Nat) (w : World) (hs : s.size ≤ 1050000) (hlt : k < s.size) (hq : s[k].toNat = 39 ∨ s[k].toNat = 34) :
    Calls Tryz.prog 58 #[.string s, .int .i64 (k : Int)] w (PTokIs (tokL k ((bts s).drop k)) w) := by
  have hlt' : (k : Int) < (s.size : Int) := by omega
  have hk : tokL k ((bts s).drop k) = (litE s[k].toNat ((bts s).drop (k + 1))).map fun x => (⟨12, k, x.1, []⟩, k + 1 + x.2) := by rw [bts_drop s k hlt]; exact tokL_lit hq
  have hc := literal_any s k
  obtain ⟨q, hqd⟩ : ∃ q, s[k].toNat = q := ⟨_, rfl⟩
  rw [hqd] at hk hq
  cases hr : litE q ((bts s).drop (k + 1)) with
  | none =>
    rw [hr] at hk
    have HQ : Hid (tokL k ((bts s).drop k) = none) := Lib.hid hk
    have hc' : ∀ w, Calls Tryz.prog 72 #[.string s, .int .i64 (k : Int)] w fun e w' => e = .returned (.tuple #[.agg #[.int .i64 0, .int .i64 0, .string ⟨#[]⟩, .int .u64 0, .int .u64 0, .int .u64 0, .int .u64 0], .int .i64 0, .bool false]) ∧ Below w.heap.size w w' := fun w => by
      have h := hc w hs hlt
      rw [hqd, hr] at h
      exact h
    have HC := Lib.hid hc'
    clear hc hc' hk hr
    rcases hq with hq | hq
    all_goals
      subst hq
      go_enter Tryz.func58, Tryz.ntmps58
      go_wp2_with (go_at_call 72; (with_reducible refine (HC.out _).mono ?_); rintro e w2 ⟨rfl, hb⟩; obtain ⟨⟨d0, d1, d2, d3, d4, d5, d6⟩, hfr⟩ := (Zero7.new2 w).below hb (by rw [alloc_size]; omega); have HB := Lib.hid ((tk_one w).trans (hb.mono (by rw [alloc_size]; omega))); clear hb)
      refine bodyPost_ret (v := .tuple #[.agg #[.int .i64 0, .int .i64 0, .string ⟨#[]⟩, .int .u64 0, .int .u64 0, .int .u64 0, .int .u64 0], .int .i64 0, .bool false]) (by simp [results, Tryz.results58, go_sem, d0, d1, d2, d3, d4, d5, d6]) rfl (PTokIs.no HQ.out ?_)
      exact seven_set HB.out _ _ _ _ _ _ _
  | some x =>
    obtain ⟨l, m⟩ := x
    rw [hr] at hk
    have HQ : Hid (tokL k ((bts s).drop k) = some (⟨12, k, l, []⟩, k + 1 + m)) := Lib.hid hk
    have hc' : ∀ w, Calls Tryz.prog 72 #[.string s, .int .i64 (k : Int)] w fun e w' => e = .returned (.tuple #[.agg #[.int .i64 12, .int .i64 0, .string (strOf l), .int .u64 0, .int .u64 0, .int .u64 0, .int .u64 0], .int .i64 ((k + 1 + m : Nat) : Int), .bool true]) ∧ Below w.heap.size w w' := fun w => by
      have h := hc w hs hlt
      rw [hqd, hr] at h
      exact h
    obtain ⟨n, hn⟩ : ∃ n : Nat, k + 1 + m = n := ⟨_, rfl⟩
    rw [hn] at hc' HQ
    have HC := Lib.hid hc'
    clear hc hc' hk hr hn
    rcases hq with hq | hq
    all_goals
      subst hq
      go_enter Tryz.func58, Tryz.ntmps58
      go_wp2_with (go_at_call 72; (with_reducible refine (HC.out _).mono ?_); rintro e w2 ⟨rfl, hb⟩; obtain ⟨⟨d0, d1, d2, d3, d4, d5, d6⟩, hfr⟩ := (Zero7.new2 w).below hb (by rw [alloc_size]; omega); have HB := Lib.hid ((tk_one w).trans (hb.mono (by rw [alloc_size]; omega))); clear hb)
      refine bodyPost_ret (v := .tuple #[.agg #[.int .i64 12, .int .i64 0, .string (strOf l), .int .u64 0, .int .u64 0, .int .u64 0, .int .u64 0], .int .i64 (n : Int), .bool true]) (by simp [results, Tryz.results58, go_sem, d0, d1, d2, d3, d4, d5, d6]) rfl (PTokIs.plain HQ.out rfl rfl rfl ?_)
      exact seven_set HB.out _ _ _ _ _ _ _
theorem ptok_any (s : ByteArray) (k : Nat) (w : World) (hs : s.size ≤ 1050000) (hlt : k < s.size) (hS : SignsAt w) :
    Calls Tryz.prog 58 #[.string s, .int .i64 (k : Int)] w (PTokIs (tokL k ((bts s).drop k)) w) := by
  by_cases hq : s[k].toNat = 39 ∨ s[k].toNat = 34
  · exact ptok_lit s k w hs hlt hq
  · by_cases h91 : s[k].toNat = 91
    · exact ptok_cls s k w hs hlt h91
    · cases hl : letB s[k].toNat true
      · exact ptok_sign s k w hs hlt hS hl h91 (by omega) (by omega)
      · exact ptok_word s k w hs hlt hl h91 (by omega) (by omega)
theorem tokL_at (k : Nat) (l : List Nat) (t : Tok) (n : Nat) (h : tokL k l = some (t, n)) : t.at_ = k := by
  cases l with
  | nil => rw [tokL_nil] at h; cases h; rfl
  | cons c r =>
    rw [tokL_cons] at h
    split at h
    · cases h; rfl
    · split at h
      · cases h; rfl
      · split at h
        · cases h; rfl
        · split at h
          · obtain ⟨x, -, e⟩ := Option.map_eq_some_iff.1 h; cases e; rfl
          · split at h
            · obtain ⟨x, -, e⟩ := Option.map_eq_some_iff.1 h; cases e; rfl
            · cases h
theorem skipL_false : ∀ (n : Nat) (l : List Nat), l.length ≤ n → (skipL l).2 = false → ∃ r, l.drop (skipL l).1 = 35 :: r
  | _, [], _, h => by rw [skipL_nil] at h; cases h
  | 0, c :: r, h, _ => absurd h (by rw [List.length_cons]; omega)
  | n + 1, c :: r, hn, h => by
    rw [List.length_cons] at hn
    by_cases h1 : c = 32 ∨ c = 9 ∨ c = 10 ∨ c = 13
    · rw [skipL_space h1] at h ⊢
      exact skipL_false n r (by omega) h
    · by_cases h2 : c = 35
      · subst h2
        cases hc : comL r with
        | none => rw [skipL_bad hc]; exact ⟨r, rfl⟩
        | some m =>
          rw [skipL_com hc] at h ⊢
          have h3 := comL_lt _ _ hc
          obtain ⟨q, hq⟩ := skipL_false n (r.drop m) (by rw [List.length_drop]; omega) h
          rw [List.drop_drop] at hq
          refine ⟨q, ?_⟩
          rw [← hq]
          show List.drop ((skipL (r.drop m)).1 + (m + 1)) (35 :: r) = _
          rw [show (skipL (r.drop m)).1 + (m + 1) = (m + (skipL (r.drop m)).1) + 1 by omega, List.drop_succ_cons]
      · rw [skipL_stop h1 h2] at h; cases h
theorem nextL_eq (l : List Nat) (p : Nat) : nextL l p = match tokL (p + (skipL (l.drop p)).1) (l.drop (p + (skipL (l.drop p)).1)) with | some x => .ok x | none => .error (p + (skipL (l.drop p)).1) := by
  unfold nextL
  cases h : (skipL (l.drop p)).2
  · obtain ⟨r, hr⟩ := skipL_false _ _ (Nat.le_refl _) h
    rw [List.drop_drop] at hr
    rw [hr, tokL_bad (by decide) (fun e => absurd e.1 (by decide)) (by decide) (by decide) (by decide)]
    rfl
  · rfl
/-- What the program's Next returns. -/
def PNextIs (o : Except Nat (Tok × Nat)) (w : World) (e : Ending) (w' : World) : Prop :=
  match o with
  | .ok (t, n) => e = .returned (.tuple #[.agg #[.int .i64 (t.kind : Int), .int .i64 (t.at_ : Int), .string (strOf t.text), .int .u64 (setW (inRs t.rs) 0), .int .u64 (setW (inRs t.rs) 1), .int .u64 (setW (inRs t.rs) 2), .int .u64 (setW (inRs t.rs) 3)], .int .i64 (n : Int), .nilIface]) ∧ Below w.heap.size w w'
  | .error k => e = .returned (.tuple #[.agg #[.int .i64 0, .int .i64 0, .string ⟨#[]⟩, .int .u64 0, .int .u64 0, .int .u64 0, .int .u64 0], .int .i64 0, .iface 92 (.agg #[.int .i64 1, .int .i64 (k : Int)])]) ∧ Below w.heap.size w w'
theorem PNextIs.bad {o : Except Nat (Tok × Nat)} {w w' : World} {k : Nat} (h : o = .error k) (hb : Below w.heap.size w w') :
    PNextIs o w (.returned (.tuple #[.agg #[.int .i64 0, .int .i64 0, .string ⟨#[]⟩, .int .u64 0, .int .u64 0, .int .u64 0, .int .u64 0], .int .i64 0, .iface 92 (.agg #[.int .i64 1, .int .i64 (k : Int)])])) w' := by
  subst h; exact ⟨rfl, hb⟩
theorem PNextIs.good {o : Except Nat (Tok × Nat)} {w w' : World} {n a k : Nat} {x : List Nat} {rs : List (Nat × Nat)} (h : o = .ok (⟨a, k, x, rs⟩, n)) (hb : Below w.heap.size w w') :
    PNextIs o w (.returned (.tuple #[.agg #[.int .i64 (a : Int), .int .i64 (k : Int), .string (strOf x), .int .u64 (setW (inRs rs) 0), .int .u64 (setW (inRs rs) 1), .int .u64 (setW (inRs rs) 2), .int .u64 (setW (inRs rs) 3)], .int .i64 (n : Int), .nilIface])) w' := by
  subst h; exact ⟨rfl, hb⟩
theorem PNextIs.fin {o : Except Nat (Tok × Nat)} {w w' : World} {k : Nat} (h : o = .ok (⟨0, k, [], []⟩, k)) (hb : Below w.heap.size w w') :
    PNextIs o w (.returned (.tuple #[.agg #[.int .i64 0, .int .i64 (k : Int), .string ⟨#[]⟩, .int .u64 0, .int .u64 0, .int .u64 0, .int .u64 0], .int .i64 (k : Int), .nilIface])) w' := by
  subst h
  refine ⟨?_, hb⟩
  simp only [inRs_none]
  rfl
/-- Block B holds seven values, and may be written. -/
def Tok7 (B : Nat) (a b c d e f g : Value) (w : World) : Prop :=
  (w.cell? ⟨B, 0, none⟩ = some a ∧ w.cell? ⟨B, 1, none⟩ = some b ∧ w.cell? ⟨B, 2, none⟩ = some c ∧ w.cell? ⟨B, 3, none⟩ = some d ∧ w.cell? ⟨B, 4, none⟩ = some e ∧ w.cell? ⟨B, 5, none⟩ = some f ∧ w.cell? ⟨B, 6, none⟩ = some g) ∧ ∀ o, w.frozen? ⟨B, o, none⟩ = false
theorem Tok7.of {B : Nat} {w : World} (h : Zero7 B w) : Tok7 B (.int .i64 0) (.int .i64 0) (.string ⟨#[]⟩) (.int .u64 0) (.int .u64 0) (.int .u64 0) (.int .u64 0) w := h
theorem Tok7.stored {B : Nat} {a b c d e f g : Value} {w : World} (h : Tok7 B a b c d e f g w) (a' b' c' d' e' f' g' : Value) :
    Tok7 B a' b' c' d' e' f' g' (((((((w.setCell ⟨B, 0, none⟩ a').setCell ⟨B, 1, none⟩ b').setCell ⟨B, 2, none⟩ c').setCell ⟨B, 3, none⟩ d').setCell ⟨B, 4, none⟩ e').setCell ⟨B, 5, none⟩ f').setCell ⟨B, 6, none⟩ g') := by
  obtain ⟨⟨h0, h1, h2, h3, h4, h5, h6⟩, hf⟩ := h
  refine ⟨⟨?_, ?_, ?_, ?_, ?_, ?_, ?_⟩, fun o => ?_⟩
  · rw [cso (by decide), cso (by decide), cso (by decide), cso (by decide), cso (by decide), cso (by decide)]; exact css h0
  · rw [cso (by decide), cso (by decide), cso (by decide), cso (by decide), cso (by decide)]; exact css (by rw [cso (by decide)]; exact h1)
  · rw [cso (by decide), cso (by decide), cso (by decide), cso (by decide)]; exact css (by rw [cso (by decide), cso (by decide)]; exact h2)
  · rw [cso (by decide), cso (by decide), cso (by decide)]; exact css (by rw [cso (by decide), cso (by decide), cso (by decide)]; exact h3)
  · rw [cso (by decide), cso (by decide)]; exact css (by rw [cso (by decide), cso (by decide), cso (by decide), cso (by decide)]; exact h4)
  · rw [cso (by decide)]; exact css (by rw [cso (by decide), cso (by decide), cso (by decide), cso (by decide), cso (by decide)]; exact h5)
  · exact css (by rw [cso (by decide), cso (by decide), cso (by decide), cso (by decide), cso (by decide), cso (by decide)]; exact h6)
  · simp only [World.frozen?_setCell]; exact hf o
set_option maxHeartbeats 4000000 in
set_option maxRecDepth 100000 in
theorem pnext_any (s : ByteArray) (p : Nat) (w : World) (hs : s.size ≤ 1050000) (hp : p ≤ s.size) (hS : SignsAt w) :
    Calls Tryz.prog 44 #[.string s, .int .i64 (p : Int)] w (PNextIs (nextL (bts s) p) w) := by
  have hp1 : ¬ (p : Int) < 0 := by omega
  have hp2 : decide ((s.size : Int) < (p : Int)) = false := by rw [decide_eq_false_iff_not]; omega
  have hn := nextL_eq (bts s) p
  have hle := skipL_le _ ((bts s).drop p) (Nat.le_refl _)
  rw [List.length_drop, bts_length] at hle
  have hsk : ∀ w, Calls Tryz.prog 57 #[.string s, .int .i64 (p : Int)] w fun e w' => e = .returned (.int .i64 ((p + (skipL ((bts s).drop p)).1 : Nat) : Int)) ∧ Below w.heap.size w w' := fun w => skip_any s p w (by omega) hp
  obtain ⟨k, hk⟩ : ∃ k, p + (skipL ((bts s).drop p)).1 = k := ⟨_, rfl⟩
  rw [hk] at hn hsk
  have hks : k ≤ s.size := by omega
  have HSK := Lib.hid hsk
  have HSG := Lib.hid hS
  clear hsk hk hle hS
  by_cases hlt : k < s.size
  · have e1 : ((k : Int) == (s.size : Int)) = false := by rw [beq_eq_false_iff_ne]; omega
    have hT : ∀ w, SignsAt w → Calls Tryz.prog 58 #[.string s, .int .i64 (k : Int)] w (PTokIs (tokL k ((bts s).drop k)) w) := fun w h => ptok_any s k w hs hlt h
    cases ht : tokL k ((bts s).drop k) with
    | none =>
      rw [ht] at hT hn
      have HN : Hid (nextL (bts s) p = .error k) := Lib.hid hn
      have hT' : ∀ w, SignsAt w → Calls Tryz.prog 58 #[.string s, .int .i64 (k : Int)] w fun e w' => e = .returned (.tuple #[.agg #[.int .i64 0, .int .i64 0, .string ⟨#[]⟩, .int .u64 0, .int .u64 0, .int .u64 0, .int .u64 0], .int .i64 0, .bool false]) ∧ Below w.heap.size w w' := fun w h => hT w h
      have HT := Lib.hid hT'
      clear hT hT' hn ht
      go_enter Tryz.func44, Tryz.ntmps44
      go_upto_region 7 with (first
        | (go_at_call 57; (with_reducible refine (HSK.out _).mono ?_); rintro e w2 ⟨rfl, hb⟩; have hz2 := (Zero7.new2 w).below hb (by rw [alloc_size]; omega); have HB := Lib.hid ((tk_one w).trans (hb.mono (by rw [alloc_size]; omega))); have hsz2 : w.heap.size < w2.heap.size := Nat.lt_of_lt_of_le (by rw [alloc_size]; omega) hb.size; clear hb)
        | (go_at_call 58; (with_reducible refine (HT.out _ (HSG.out.kept HB.out (Nat.le_refl _))).mono ?_); rintro e w3 ⟨rfl, hb⟩; have HZ3 := Lib.hid (hz2.below hb hsz2); obtain ⟨⟨d0, d1, d2, d3, d4, d5, d6⟩, hfr⟩ := HZ3.out; have HB3 := Lib.hid (HB.out.trans (hb.mono (Nat.le_of_lt hsz2))); clear hb hz2))
      have ht4 := (Tok7.of HZ3.out).stored (.int .i64 0) (.int .i64 0) (.string ⟨#[]⟩) (.int .u64 0) (.int .u64 0) (.int .u64 0) (.int .u64 0)
      have hb4 := seven_set HB3.out (.int .i64 0) (.int .i64 0) (.string ⟨#[]⟩) (.int .u64 0) (.int .u64 0) (.int .u64 0) (.int .u64 0)
      generalize (((((((w3.setCell ⟨w.heap.size, 0, none⟩ (.int .i64 0)).setCell ⟨w.heap.size, 1, none⟩ (.int .i64 0)).setCell ⟨w.heap.size, 2, none⟩ (.string ⟨#[]⟩)).setCell ⟨w.heap.size, 3, none⟩ (.int .u64 0)).setCell ⟨w.heap.size, 4, none⟩ (.int .u64 0)).setCell ⟨w.heap.size, 5, none⟩ (.int .u64 0)).setCell ⟨w.heap.size, 6, none⟩ (.int .u64 0)) = W4 at ht4 hb4 ⊢
      have HB4 := Lib.hid hb4
      clear d0 d1 d2 d3 d4 d5 d6 hfr HZ3 HB3 HB hb4
      obtain ⟨⟨d0, d1, d2, d3, d4, d5, d6⟩, hfr⟩ := ht4
      go_wp2_with (go_at_call 56; (with_reducible refine (New_any _ _ _).mono ?_); rintro e w' ⟨rfl, hw⟩; obtain rfl := hw.symm; clear hw)
      refine bodyPost_ret (v := .tuple #[.agg #[.int .i64 0, .int .i64 0, .string ⟨#[]⟩, .int .u64 0, .int .u64 0, .int .u64 0, .int .u64 0], .int .i64 0, .iface 92 (.agg #[.int .i64 1, .int .i64 (k : Int)])]) (by simp [results, Tryz.results44, go_sem, d0, d1, d2, d3, d4, d5, d6]) rfl (PNextIs.bad HN.out ?_)
      exact seven_set HB4.out _ _ _ _ _ _ _
    | some x =>
      obtain ⟨⟨a, k', x, rs⟩, n⟩ := x
      obtain rfl : k' = k := tokL_at _ _ _ _ ht
      rw [ht] at hT hn
      have HN : Hid (nextL (bts s) p = .ok (⟨a, k', x, rs⟩, n)) := Lib.hid hn
      obtain ⟨st, hst⟩ : ∃ st, strOf x = st := ⟨_, rfl⟩
      obtain ⟨s0, hs0⟩ : ∃ y, setW (inRs rs) 0 = y := ⟨_, rfl⟩
      obtain ⟨s1, hs1⟩ : ∃ y, setW (inRs rs) 1 = y := ⟨_, rfl⟩
      obtain ⟨s2, hs2⟩ : ∃ y, setW (inRs rs) 2 = y := ⟨_, rfl⟩
      obtain ⟨s3, hs3⟩ : ∃ y, setW (inRs rs) 3 = y := ⟨_, rfl⟩
      have hT' : ∀ w, SignsAt w → Calls Tryz.prog 58 #[.string s, .int .i64 (k' : Int)] w fun e w' => e = .returned (.tuple #[.agg #[.int .i64 (a : Int), .int .i64 0, .string st, .int .u64 s0, .int .u64 s1, .int .u64 s2, .int .u64 s3], .int .i64 (n : Int), .bool true]) ∧ Below w.heap.size w w' := fun w h => by
        rw [← hst, ← hs0, ← hs1, ← hs2, ← hs3]; exact hT w h
      have HT := Lib.hid hT'
      have HG : Hid (∀ w', Below w.heap.size w w' → PNextIs (nextL (bts s) p) w (.returned (.tuple #[.agg #[.int .i64 (a : Int), .int .i64 (k' : Int), .string st, .int .u64 s0, .int .u64 s1, .int .u64 s2, .int .u64 s3], .int .i64 (n : Int), .nilIface])) w') := Lib.hid (fun w' hb => by rw [← hst, ← hs0, ← hs1, ← hs2, ← hs3]; exact PNextIs.good HN.out hb)
      clear hT hT' hn ht hst hs0 hs1 hs2 hs3
      go_enter Tryz.func44, Tryz.ntmps44
      go_upto_region 7 with (first
        | (go_at_call 57; (with_reducible refine (HSK.out _).mono ?_); rintro e w2 ⟨rfl, hb⟩; have hz2 := (Zero7.new2 w).below hb (by rw [alloc_size]; omega); have HB := Lib.hid ((tk_one w).trans (hb.mono (by rw [alloc_size]; omega))); have hsz2 : w.heap.size < w2.heap.size := Nat.lt_of_lt_of_le (by rw [alloc_size]; omega) hb.size; clear hb)
        | (go_at_call 58; (with_reducible refine (HT.out _ (HSG.out.kept HB.out (Nat.le_refl _))).mono ?_); rintro e w3 ⟨rfl, hb⟩; have HZ3 := Lib.hid (hz2.below hb hsz2); obtain ⟨⟨d0, d1, d2, d3, d4, d5, d6⟩, hfr⟩ := HZ3.out; have HB3 := Lib.hid (HB.out.trans (hb.mono (Nat.le_of_lt hsz2))); clear hb hz2))
      have ht4 := (Tok7.of HZ3.out).stored (.int .i64 (a : Int)) (.int .i64 0) (.string st) (.int .u64 s0) (.int .u64 s1) (.int .u64 s2) (.int .u64 s3)
      have hb4 := seven_set HB3.out (.int .i64 (a : Int)) (.int .i64 0) (.string st) (.int .u64 s0) (.int .u64 s1) (.int .u64 s2) (.int .u64 s3)
      generalize (((((((w3.setCell ⟨w.heap.size, 0, none⟩ (.int .i64 (a : Int))).setCell ⟨w.heap.size, 1, none⟩ (.int .i64 0)).setCell ⟨w.heap.size, 2, none⟩ (.string st)).setCell ⟨w.heap.size, 3, none⟩ (.int .u64 s0)).setCell ⟨w.heap.size, 4, none⟩ (.int .u64 s1)).setCell ⟨w.heap.size, 5, none⟩ (.int .u64 s2)).setCell ⟨w.heap.size, 6, none⟩ (.int .u64 s3)) = W4 at ht4 hb4 ⊢
      have HB4 := Lib.hid hb4
      have HT4 := Lib.hid ht4
      clear d0 d1 d2 d3 d4 d5 d6 hfr HZ3 HB3 HB hb4 ht4
      obtain ⟨⟨d0, d1, d2, d3, d4, d5, d6⟩, hfr⟩ := HT4.out
      go_upto_region 10 with fail
      have ht5 : Tok7 w.heap.size (.int .i64 (a : Int)) (.int .i64 (k' : Int)) (.string st) (.int .u64 s0) (.int .u64 s1) (.int .u64 s2) (.int .u64 s3) (W4.setCell ⟨w.heap.size, 1, none⟩ (.int .i64 (k' : Int))) :=
        ⟨⟨by rw [cso (by decide)]; exact d0, css d1, by rw [cso (by decide)]; exact d2, by rw [cso (by decide)]; exact d3, by rw [cso (by decide)]; exact d4, by rw [cso (by decide)]; exact d5, by rw [cso (by decide)]; exact d6⟩, fun o => by rw [World.frozen?_setCell]; exact hfr o⟩
      have hb5 : Below w.heap.size w (W4.setCell ⟨w.heap.size, 1, none⟩ (.int .i64 (k' : Int))) := HB4.out.setCell (p := ⟨w.heap.size, 1, none⟩) (Nat.le_refl _) _
      generalize W4.setCell ⟨w.heap.size, 1, none⟩ (.int .i64 (k' : Int)) = W5 at ht5 hb5 ⊢
      have HB5 := Lib.hid hb5
      clear d0 d1 d2 d3 d4 d5 d6 hfr HT4 HB4 hb5
      obtain ⟨⟨d0, d1, d2, d3, d4, d5, d6⟩, hfr⟩ := ht5
      go_wp2
      refine bodyPost_ret (v := .tuple #[.agg #[.int .i64 (a : Int), .int .i64 (k' : Int), .string st, .int .u64 s0, .int .u64 s1, .int .u64 s2, .int .u64 s3], .int .i64 (n : Int), .nilIface]) (by simp [results, Tryz.results44, go_sem, d0, d1, d2, d3, d4, d5, d6]) rfl (HG.out _ ?_)
      exact seven_set HB5.out _ _ _ _ _ _ _
  · have hks' : k = s.size := by omega
    have e1 : ((k : Int) == (s.size : Int)) = true := by rw [beq_iff_eq]; omega
    have hn' : nextL (bts s) p = .ok (⟨0, k, [], []⟩, k) := by
      rw [hn, List.drop_eq_nil_of_le (by rw [bts_length]; omega), tokL_nil]
    have HN := Lib.hid hn'
    clear hn hn' hks'
    go_enter Tryz.func44, Tryz.ntmps44
    go_wp2_with (go_at_call 57; (with_reducible refine (HSK.out _).mono ?_); rintro e w2 ⟨rfl, hb⟩; obtain ⟨⟨d0, d1, d2, d3, d4, d5, d6⟩, hfr⟩ := (Zero7.new2 w).below hb (by rw [alloc_size]; omega); have HB := Lib.hid ((tk_one w).trans (hb.mono (by rw [alloc_size]; omega))); clear hb)
    refine bodyPost_ret (v := .tuple #[.agg #[.int .i64 0, .int .i64 (k : Int), .string ⟨#[]⟩, .int .u64 0, .int .u64 0, .int .u64 0, .int .u64 0], .int .i64 (k : Int), .nilIface]) (by simp [results, Tryz.results44, go_sem, d0, d1, d2, d3, d4, d5, d6]) rfl (PNextIs.fin HN.out ?_)
    exact seven_set HB.out _ _ _ _ _ _ _
end
section
open Go.RowKit
/-- What the program's Tokens returns. -/
def PToksIs (o : Except Nat (List Tok)) (w : World) (e : Ending) (w' : World) : Prop :=
  match o with
  | .error k => e = .returned (.tuple #[.slice none 0 0, .iface 92 (.agg #[.int .i64 1, .int .i64 (k : Int)])]) ∧ Below w.heap.size w w'
  | .ok ts => ∃ v, e = .returned (.tuple #[v, .nilIface]) ∧ w'.ownsRow w.heap.size 84 7 v ts.length (toksC ts) ∧ Below w.heap.size w w'
theorem PToksIs.bad {o : Except Nat (List Tok)} {w w' : World} {k : Nat} (h : o = .error k) (hb : Below w.heap.size w w') : PToksIs o w (.returned (.tuple #[.slice none 0 0, .iface 92 (.agg #[.int .i64 1, .int .i64 (k : Int)])])) w' := by
  subst h; exact ⟨rfl, hb⟩
theorem PToksIs.good {o : Except Nat (List Tok)} {w w' : World} {v : Value} {ts : List Tok} (h : o = .ok ts) (hs : w'.ownsRow w.heap.size 84 7 v ts.length (toksC ts)) (hb : Below w.heap.size w w') : PToksIs o w (.returned (.tuple #[v, .nilIface])) w' := by
  subst h; exact ⟨v, rfl, hs, hb⟩
theorem pnext_bad (s : ByteArray) (p k : Nat) (w : World) (hs : s.size ≤ 1050000) (hp : p ≤ s.size) (hS : SignsAt w) (h : nextL (bts s) p = .error k) :
    Calls Tryz.prog 44 #[.string s, .int .i64 (p : Int)] w fun e w' => e = .returned (.tuple #[.agg #[.int .i64 0, .int .i64 0, .string ⟨#[]⟩, .int .u64 0, .int .u64 0, .int .u64 0, .int .u64 0], .int .i64 0, .iface 92 (.agg #[.int .i64 1, .int .i64 (k : Int)])]) ∧ Below w.heap.size w w' := by
  have := pnext_any s p w hs hp hS
  unfold PNextIs at this
  rw [h] at this
  exact this
theorem pnext_ok (s : ByteArray) (p : Nat) (t : Tok) (n : Nat) (w : World) (hs : s.size ≤ 1050000) (hp : p ≤ s.size) (hS : SignsAt w) (h : nextL (bts s) p = .ok (t, n)) :
    Calls Tryz.prog 44 #[.string s, .int .i64 (p : Int)] w fun e w' => e = .returned (.tuple #[.agg #[.int .i64 (t.kind : Int), .int .i64 (t.at_ : Int), .string (strOf t.text), .int .u64 (setW (inRs t.rs) 0), .int .u64 (setW (inRs t.rs) 1), .int .u64 (setW (inRs t.rs) 2), .int .u64 (setW (inRs t.rs) 3)], .int .i64 (n : Int), .nilIface]) ∧ Below w.heap.size w w' := by
  have := pnext_any s p w hs hp hS
  unfold PNextIs at this
  rw [h] at this
  exact this
end
end Go.Proofs.YtmjnbapkpcfgcaaGreatDoor
namespace Go.Proofs.YtmjnbapkpcfgcaaGreatDoor
theorem defs_len {st : Bool} {F : List Tok → MF → PO} : ∀ (n : Nat) (ts : List Tok) (f g : MF) (rs rs' : List (List Nat × Nat × Int)), defsL st F n ts f rs = .ok rs' g → rs'.length ≤ rs.length + n
  | 0, _, _, _, _, _, h => by cases h
  | n + 1, ts, f, g, rs, rs', h => by
    unfold defsL at h
    cases hd : defL st F ts f with
    | bad a dp => rw [hd] at h; cases h
    | ok a k =>
      rw [hd] at h
      dsimp only at h
      by_cases h0 : kd a = 0
      · rw [if_pos h0] at h
        cases h
        rw [List.length_append, List.length_singleton]
        omega
      · rw [if_neg h0] at h
        have := defs_len n a k g _ _ h
        rw [List.length_append, List.length_singleton] at this
        omega
theorem defL_calls {st : Bool} {F : List Tok → MF → PO} (hG : Grow 0 2 F) {ts a : List Tok} {f g : MF} (h : defL st F ts f = .ok a g) : g.calls.length + a.length ≤ f.calls.length + ts.length := by
  unfold defL at h
  split at h
  · rename_i k1
    have t1 := wt_tail (ts := ts) (by omega)
    obtain ⟨b, k, hb, hk⟩ := bind_ok' h
    have e1 : b = ts.tail ∧ k = f := by
      unfold acc at hb
      split at hb
      · cases hb
      · cases hb; exact ⟨rfl, rfl⟩
    obtain ⟨rfl, rfl⟩ := e1
    split at hk
    · rename_i k2
      have t2 := wt_tail (ts := ts.tail) (by omega)
      obtain ⟨c, j, hc, hj⟩ := bind_ok' hk
      have e2 : c = ts.tail.tail ∧ j = k := by
        unfold acc at hc
        split at hc
        · cases hc
        · cases hc; exact ⟨rfl, rfl⟩
      obtain ⟨rfl, rfl⟩ := e2
      have hg := hG ts.tail.tail j
      rw [hj] at hg
      have := hg.2.2.2.2.2
      omega
    · cases hk
  · cases h
theorem defs_calls {st : Bool} {F : List Tok → MF → PO} (hG : Grow 0 2 F) : ∀ (n : Nat) (ts : List Tok) (f g : MF) (rs rs' : List (List Nat × Nat × Int)), defsL st F n ts f rs = .ok rs' g → g.calls.length ≤ f.calls.length + ts.length
  | 0, _, _, _, _, _, h => by cases h
  | n + 1, ts, f, g, rs, rs', h => by
    unfold defsL at h
    cases hd : defL st F ts f with
    | bad a dp => rw [hd] at h; cases h
    | ok a k =>
      have hc := defL_calls hG hd
      rw [hd] at h
      dsimp only at h
      by_cases h0 : kd a = 0
      · rw [if_pos h0] at h
        cases h
        omega
      · rw [if_neg h0] at h
        have := defs_calls hG n a k g _ _ h
        omega
theorem strm_len (s : ByteArray) : (strm (bts s) 0).length ≤ s.size + 1 := by
  obtain ⟨-, h2, -⟩ := strm_facts (bts s) _ 0 (Nat.zero_le _) (Nat.le_refl _)
  rw [bts_length] at h2
  omega
theorem rfile_bounds {s : ByteArray} {rs : List (List Nat × Nat × Int)} {f : MF} (hs : s.size ≤ 1050000) (h : rfileL (bts s) = .ok rs f) : rs.length ≤ 100000000 ∧ f.calls.length ≤ 100000000 := by
  have h1 := defs_len _ _ _ _ _ _ h
  have h2 := defs_calls (Gr.expr 200 true) _ _ _ _ _ _ h
  have h3 := strm_len s
  have e1 : ([] : List (List Nat × Nat × Int)).length = 0 := rfl
  have e2 : (⟨[], []⟩ : MF).calls.length = 0 := rfl
  omega
theorem rex_ok {l : List Nat} {rs : List (List Nat × Nat × Int)} {f : MF} (h : rexL l = .ok rs f) : ∃ a, exprL true 200 false (strm l 0) ⟨[], []⟩ = .ok a f ∧ kd a = 0 ∧ rs = [([], 0, lastI f)] := by
  unfold rexL at h
  rw [singL_ok] at h
  cases ho : exprL true 200 false (strm l 0) ⟨[], []⟩ with
  | bad a d => rw [ho] at h; cases h
  | ok a g =>
    rw [ho] at h
    dsimp only at h
    by_cases h0 : kd a = 0
    · rw [if_pos h0] at h
      cases h
      exact ⟨a, rfl, h0, rfl⟩
    · rw [if_neg h0] at h
      cases h
theorem rex_bounds {s : ByteArray} {rs : List (List Nat × Nat × Int)} {f : MF} (hs : s.size ≤ 1050000) (h : rexL (bts s) = .ok rs f) : rs.length ≤ 100000000 ∧ f.calls.length ≤ 100000000 := by
  obtain ⟨a, h1, h0, rfl⟩ := rex_ok h
  have hg := Gr.expr (st := true) 200 false (strm (bts s) 0) ⟨[], []⟩
  rw [h1] at hg
  have h2 := hg.2.2.2.2.2
  have h3 := strm_len s
  have e2 : (⟨[], []⟩ : MF).calls.length = 0 := rfl
  exact ⟨by rw [List.length_singleton]; omega, by omega⟩
theorem shN_zero (n : PN) : shN 0 0 n = n := by
  obtain ⟨op, ks, r, a, b, c, d⟩ := n
  unfold shN
  dsimp only
  have e1 : ks.map (· + ((0 : Nat) : Int)) = ks := by
    have : (fun x : Int => x + ((0 : Nat) : Int)) = id := by funext x; simp
    rw [this, List.map_id]
  rw [e1]
  split
  · simp
  · rfl
/-- A file whose calls stand further on. -/
def mvF (d : Nat) (f : MF) : MF := ⟨f.nodes, f.calls.map fun c => (c.1, c.2 + d)⟩
theorem phi_nil (d : Nat) (f : MF) : phi d [] [] f = mvF d f := by
  show MF.mk ([] ++ f.nodes.map (shN 0 0)) ([] ++ f.calls.map _) = _
  have e : shN 0 0 = id := funext shN_zero
  rw [e, List.map_id]
  rfl
theorem parts_top {pre : List Tok → MF → PO} (hpre : ∀ ts f, kd ts = 1 → kd ts.tail = 2 → ∃ a d, pre ts f = .bad a d) : ∀ (n : Nat) (ts a : List Tok) (f g : MF) (ks : List Int), partsL false pre n ts f ks = .ok a g → partsL true pre n ts f ks = .ok a g
  | 0, _, _, _, _, _, h => by cases h
  | n + 1, ts, a, f, g, ks, h => by
    cases hb : begB false ts
    · rw [partsL_stop hb] at h
      have hb2 : begB true ts = false := by
        unfold begB at hb ⊢
        split
        · rename_i k1
          rw [if_pos k1] at hb
          simp at hb
        · rename_i k1
          rw [if_neg k1] at hb
          exact hb
      rw [partsL_stop hb2]
      exact h
    · rw [partsL_go hb] at h
      obtain ⟨b, k, hbk, hk⟩ := bind_ok' h
      have hb2 : begB true ts = true := by
        unfold begB at hb ⊢
        split
        · rename_i k1
          by_cases k2 : kd ts.tail = 2
          · obtain ⟨x, d, e⟩ := hpre ts f k1 k2
            rw [e] at hbk
            cases hbk
          · have : (kd ts.tail == 2) = false := by rw [beq_eq_false_iff_ne]; exact k2
            rw [this]
            rfl
        · rename_i k1
          rw [if_neg k1] at hb
          exact hb
      rw [partsL_go hb2, hbk]
      exact parts_top hpre n b a k g _ hk
theorem pre_arrow (room : Nat) (rec : List Tok → MF → PO) (ts : List Tok) (f : MF) (h1 : kd ts = 1) (h2 : kd ts.tail = 2) : ∃ a d, preL true room rec ts f = .bad a d := by
  cases ts with
  | nil => cases h1
  | cons t tl =>
    have h1 : t.kind = 1 := h1
    have h2 : kd tl = 2 := h2
    refine ⟨tl, false, ?_⟩
    unfold preL
    have ek : kd (t :: tl) = t.kind := rfl
    rw [ek, if_neg (by omega)]
    unfold sufL primL
    dsimp only
    rw [if_pos h1, if_pos ⟨rfl, .inl h2⟩]
    rfl
theorem alts_top {s1 s2 : List Tok → MF → PO} (h : ∀ ts f a g, s1 ts f = .ok a g → s2 ts f = .ok a g) : ∀ (n : Nat) (ts a : List Tok) (f g : MF) (ks : List Int), altsL true s1 n ts f ks = .ok a g → altsL true s2 n ts f ks = .ok a g
  | 0, _, _, _, _, _, h => by cases h
  | n + 1, ts, a, f, g, ks, hh => by
    rw [altsL_eq] at hh ⊢
    obtain ⟨b, k, hb, hk⟩ := bind_ok' hh
    rw [h ts f b k hb, PO.bind_ok]
    by_cases h3 : kd b = 3
    · rw [if_pos h3, acc_true] at hk ⊢
      exact alts_top h n b.tail a k g _ hk
    · rw [if_neg h3] at hk ⊢
      exact hk
theorem expr_top {r : Nat} {ts a : List Tok} {f g : MF} (h : exprL true r false ts f = .ok a g) : exprL true r true ts f = .ok a g := by
  rw [exprL_eq] at h ⊢
  exact alts_top (fun ts f a g h => by
    unfold seqL at h ⊢
    exact parts_top (fun ts f => pre_arrow _ _ ts f) _ ts a f g [] h) _ ts a f g [] h
/-- An expression behind a name and an arrow. -/
theorem ex_def {l : List Nat} {rs : List (List Nat × Nat × Int)} {f : MF} (h : rexL l = .ok rs f) : ∃ k, rfileL (88 :: 60 :: 45 :: l) = .ok [([88], 0, k)] (mvF 3 f) := by
  obtain ⟨a, he, h0, -⟩ := rex_ok h
  have hE := endy_strm l _ 0 (Nat.zero_le _) (Nat.le_refl _)
  have hg := Gr.expr (st := true) 200 false (strm l 0) ⟨[], []⟩
  rw [he] at hg
  have hr := all_read hE hg.1 h0
  have ht := strm_toks l _ 0 (Nat.le_refl _) (Nat.zero_le _) hr
  have h2 := toks_strm _ _ (3 + 0) _ (Nat.le_refl _) (by simp) (toksL_shift (u := [88, 60, 45]) (r := l) _ 0 _ (Nat.le_refl _) (Nat.zero_le _) ht)
  have h2 : strm (88 :: 60 :: 45 :: l) 3 = mvT 3 (strm l 0) := h2
  have n0 : nextL (88 :: 60 :: 45 :: l) 0 = .ok (⟨1, 0, [88], []⟩, 1) := by
    rw [nextL_eq, List.drop_zero, skipL_stop (by decide) (by decide)]
    show (match tokL 0 (88 :: 60 :: 45 :: l) with | some x => Except.ok x | none => .error 0) = _
    rw [tokL_id (by decide), idL_yes (by decide), idL_no (by decide)]
    rfl
  have n1 : nextL (88 :: 60 :: 45 :: l) 1 = .ok (⟨2, 1, [], []⟩, 3) := by
    rw [nextL_eq, show (88 :: 60 :: 45 :: l).drop 1 = 60 :: 45 :: l from rfl, skipL_stop (by decide) (by decide)]
    show (match tokL 1 (60 :: 45 :: l) with | some x => Except.ok x | none => .error 1) = _
    rw [tokL_arrow (by decide) ⟨rfl, rfl⟩]
  have hs : strm (88 :: 60 :: 45 :: l) 0 = ⟨1, 0, [88], []⟩ :: ⟨2, 1, [], []⟩ :: mvT 3 (strm l 0) := by
    rw [strm_step n0 (by decide) ⟨by decide, by simp⟩, strm_step n1 (by decide) ⟨by decide, by simp⟩, h2]
  have hx := Hom.expr (d := 3) (N0 := []) (C0 := []) true 200 true (strm l 0) ⟨[], []⟩
  rw [expr_top he] at hx
  have e1 : phi 3 [] [] ⟨[], []⟩ = ⟨[], []⟩ := rfl
  rw [e1] at hx
  refine ⟨lastI (mvF 3 f), ?_⟩
  unfold rfileL
  rw [hs]
  show defsL true _ ((mvT 3 (strm l 0)).length + 1 + 1 + 1) _ _ _ = _
  unfold defsL
  have hd : defL true (exprL true 200 true) (⟨1, 0, [88], []⟩ :: ⟨2, 1, [], []⟩ :: mvT 3 (strm l 0)) ⟨[], []⟩ = .ok (mvT 3 a) (mvF 3 f) := by
    unfold defL
    rw [if_pos (show kd (_ :: _) = 1 from rfl), acc_true, PO.bind_ok]
    show (if kd (⟨2, 1, [], []⟩ :: mvT 3 (strm l 0)) = 2 then _ else _) = _
    rw [if_pos (show kd (⟨2, 1, [], []⟩ :: mvT 3 (strm l 0)) = 2 from rfl), acc_true, PO.bind_ok]
    show exprL true 200 true (mvT 3 (strm l 0)) ⟨[], []⟩ = _
    rw [hx]
    show PO.ok (mvT 3 a) (phi 3 [] [] f) = _
    rw [phi_nil]
  rw [hd]
  dsimp only
  rw [if_pos (show kd (mvT 3 a) = 0 by rw [mvT_kd]; exact h0)]
  rfl
end Go.Proofs.YtmjnbapkpcfgcaaGreatDoor
namespace Go.Proofs.YtmjnbapkpcfgcaaGreatDoor
def exC : List Nat := [65, 32, 60, 45, 32, 39, 97, 98, 39, 32, 65, 32, 47]
theorem exC_0 : nextL exC 0 = .ok (⟨1, 0, [65], []⟩, 1) := by
  rw [nextL_eq, show exC.drop 0 = 65 :: exC.drop 1 from rfl, skipL_stop (by decide) (by decide)]
  show (match tokL 0 (65 :: exC.drop 1) with | some x => Except.ok x | none => .error 0) = _
  rw [tokL_id (by decide)]; rfl
theorem exC_1 : nextL exC 1 = .ok (⟨2, 2, [], []⟩, 4) := by
  rw [nextL_eq, show exC.drop 1 = 32 :: 60 :: exC.drop 3 from rfl, skipL_space (by decide), skipL_stop (by decide) (by decide)]
  show (match tokL 2 (60 :: exC.drop 3) with | some x => Except.ok x | none => .error 2) = _
  rw [tokL_arrow (by decide) (by decide)]
theorem exC_4 : nextL exC 4 = .ok (⟨12, 5, [97, 98], []⟩, 9) := by
  rw [nextL_eq, show exC.drop 4 = 32 :: 39 :: exC.drop 6 from rfl, skipL_space (by decide), skipL_stop (by decide) (by decide)]
  show (match tokL 5 (39 :: 97 :: 98 :: exC.drop 8) with | some x => Except.ok x | none => .error _) = _
  rw [tokL_lit (Or.inl rfl), litE_step (c := 97) (n := 1) rfl (by decide), show (97 :: 98 :: exC.drop 8).drop 1 = 98 :: exC.drop 8 from rfl, litE_step (c := 98) (n := 1) rfl (by decide), show (98 :: exC.drop 8).drop 1 = 39 :: exC.drop 9 from rfl, litE_end]
  rfl
theorem exC_9 : nextL exC 9 = .ok (⟨1, 10, [65], []⟩, 11) := by
  rw [nextL_eq, show exC.drop 9 = 32 :: 65 :: exC.drop 11 from rfl, skipL_space (by decide), skipL_stop (by decide) (by decide)]
  show (match tokL 10 (65 :: exC.drop 11) with | some x => Except.ok x | none => .error 10) = _
  rw [tokL_id (by decide)]; rfl
theorem exC_11 : nextL exC 11 = .ok (⟨3, 12, [], []⟩, 13) := by
  rw [nextL_eq, show exC.drop 11 = 32 :: 47 :: exC.drop 13 from rfl, skipL_space (by decide), skipL_stop (by decide) (by decide)]
  show (match tokL 12 (47 :: exC.drop 13) with | some x => Except.ok x | none => .error 12) = _
  rw [tokL_sign (i := 3) (by decide) (by decide) rfl]
theorem exC_13 : nextL exC 13 = .ok (⟨0, 13, [], []⟩, 13) := by
  rw [nextL_eq, show exC.drop 13 = [] from rfl, skipL_nil]; rfl
theorem exC_strm : strm exC 0 = [⟨1, 0, [65], []⟩, ⟨2, 2, [], []⟩, ⟨12, 5, [97, 98], []⟩, ⟨1, 10, [65], []⟩, ⟨3, 12, [], []⟩, ⟨0, 13, [], []⟩] := by
  rw [strm_step exC_0 (by decide) (by decide), strm_step exC_1 (by decide) (by decide), strm_step exC_4 (by decide) (by decide), strm_step exC_9 (by decide) (by decide), strm_step exC_11 (by decide) (by decide), strm_end exC_13 rfl]
def exD : List Nat := [65, 32, 60, 45, 32, 40, 66, 32, 60, 45, 32, 99]
theorem exD_0 : nextL exD 0 = .ok (⟨1, 0, [65], []⟩, 1) := by
  rw [nextL_eq, show exD.drop 0 = 65 :: exD.drop 1 from rfl, skipL_stop (by decide) (by decide)]
  show (match tokL 0 (65 :: exD.drop 1) with | some x => Except.ok x | none => .error 0) = _
  rw [tokL_id (by decide)]; rfl
theorem exD_1 : nextL exD 1 = .ok (⟨2, 2, [], []⟩, 4) := by
  rw [nextL_eq, show exD.drop 1 = 32 :: 60 :: exD.drop 3 from rfl, skipL_space (by decide), skipL_stop (by decide) (by decide)]
  show (match tokL 2 (60 :: exD.drop 3) with | some x => Except.ok x | none => .error 2) = _
  rw [tokL_arrow (by decide) (by decide)]
theorem exD_4 : nextL exD 4 = .ok (⟨9, 5, [], []⟩, 6) := by
  rw [nextL_eq, show exD.drop 4 = 32 :: 40 :: exD.drop 6 from rfl, skipL_space (by decide), skipL_stop (by decide) (by decide)]
  show (match tokL 5 (40 :: exD.drop 6) with | some x => Except.ok x | none => .error 5) = _
  rw [tokL_sign (i := 9) (by decide) (by decide) rfl]
theorem exD_6 : nextL exD 6 = .ok (⟨1, 6, [66], []⟩, 7) := by
  rw [nextL_eq, show exD.drop 6 = 66 :: exD.drop 7 from rfl, skipL_stop (by decide) (by decide)]
  show (match tokL 6 (66 :: exD.drop 7) with | some x => Except.ok x | none => .error 6) = _
  rw [tokL_id (by decide)]; rfl
theorem exD_7 : nextL exD 7 = .ok (⟨2, 8, [], []⟩, 10) := by
  rw [nextL_eq, show exD.drop 7 = 32 :: 60 :: exD.drop 9 from rfl, skipL_space (by decide), skipL_stop (by decide) (by decide)]
  show (match tokL 8 (60 :: exD.drop 9) with | some x => Except.ok x | none => .error 8) = _
  rw [tokL_arrow (by decide) (by decide)]
theorem exD_10 : nextL exD 10 = .ok (⟨1, 11, [99], []⟩, 12) := by
  rw [nextL_eq, show exD.drop 10 = 32 :: 99 :: exD.drop 12 from rfl, skipL_space (by decide), skipL_stop (by decide) (by decide)]
  show (match tokL 11 (99 :: exD.drop 12) with | some x => Except.ok x | none => .error 11) = _
  rw [tokL_id (by decide)]; rfl
theorem exD_12 : nextL exD 12 = .ok (⟨0, 12, [], []⟩, 12) := by
  rw [nextL_eq, show exD.drop 12 = [] from rfl, skipL_nil]; rfl
theorem exD_strm : strm exD 0 = [⟨1, 0, [65], []⟩, ⟨2, 2, [], []⟩, ⟨9, 5, [], []⟩, ⟨1, 6, [66], []⟩, ⟨2, 8, [], []⟩, ⟨1, 11, [99], []⟩, ⟨0, 12, [], []⟩] := by
  rw [strm_step exD_0 (by decide) (by decide), strm_step exD_1 (by decide) (by decide), strm_step exD_4 (by decide) (by decide), strm_step exD_6 (by decide) (by decide), strm_step exD_7 (by decide) (by decide), strm_step exD_10 (by decide) (by decide), strm_end exD_12 rfl]
def exE : List Nat := [97, 42]
theorem exE_0 : nextL exE 0 = .ok (⟨1, 0, [97], []⟩, 1) := by
  rw [nextL_eq, show exE.drop 0 = 97 :: exE.drop 1 from rfl, skipL_stop (by decide) (by decide)]
  show (match tokL 0 (97 :: exE.drop 1) with | some x => Except.ok x | none => .error 0) = _
  rw [tokL_id (by decide)]; rfl
theorem exE_1 : nextL exE 1 = .ok (⟨7, 1, [], []⟩, 2) := by
  rw [nextL_eq, show exE.drop 1 = 42 :: exE.drop 2 from rfl, skipL_stop (by decide) (by decide)]
  show (match tokL 1 (42 :: exE.drop 2) with | some x => Except.ok x | none => .error 1) = _
  rw [tokL_sign (i := 7) (by decide) (by decide) rfl]
theorem exE_2 : nextL exE 2 = .ok (⟨0, 2, [], []⟩, 2) := by
  rw [nextL_eq, show exE.drop 2 = [] from rfl, skipL_nil]; rfl
theorem exE_strm : strm exE 0 = [⟨1, 0, [97], []⟩, ⟨7, 1, [], []⟩, ⟨0, 2, [], []⟩] := by
  rw [strm_step exE_0 (by decide) (by decide), strm_step exE_1 (by decide) (by decide), strm_end exE_2 rfl]
theorem exC_file : fileL exC = .ok [([65], 0, 6)] ⟨[clsN (fun i => decide (i = 97)), clsN (fun i => decide (i = 98)), mkN 3 [0, 1], callN 0, mkN 3 [2, 3], mkN 0 [], mkN 4 [4, 5]], [([65], 10)]⟩ := by
  unfold fileL
  rw [exC_strm]
  rfl
theorem exD_file : ∃ tl, fileL exD = .bad (⟨2, 8, [], []⟩ :: tl) false := by
  unfold fileL
  rw [exD_strm]
  exact ⟨_, rfl⟩
theorem exE_file : exFL exE = .ok [([], 0, 1)] ⟨[callN 0, mkN 5 [0]], [([97], 0)]⟩ := by
  unfold exFL
  rw [exE_strm]
  rfl
end Go.Proofs.YtmjnbapkpcfgcaaGreatDoor
