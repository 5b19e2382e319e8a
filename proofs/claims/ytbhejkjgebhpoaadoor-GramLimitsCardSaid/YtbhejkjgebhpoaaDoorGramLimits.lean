/- The walk of the law GramLimits. -/
import Derived.Test.YtbhejkjgebhpoaaDoorGramTower
import Derived.Test.YtbhejkjgebhpoaaDoorGramAwake
import Derived.Test.YtbhejkjgebhpoaaDoorFaults
import Derived.Deep.Cut
namespace Go.Proofs.YtbhejkjgebhpoaaDoor
open Go.RowKit
theorem kept_cell {w W : World} {b o : Nat} {v : Value} (h : w.cell? ⟨b, o, none⟩ = some v) (hb : Below w.heap.size w W) : W.cell? ⟨b, o, none⟩ = some v := by
  rw [(bcell hb).1 b o (lt_of_cell h)]; exact h
theorem At_nil (w : World) :
    Calls Tryd.prog 11 #[.nilIface] w fun ev w' => ev = .returned (.tuple #[.int .i64 0, .bool false]) ∧ Below w.heap.size w w' := by
  have hA := find_Fault_nil w
  go_enter Tryd.func11, Tryd.ntmps11
  go_wp2_with (go_at_call 29; refine hA.mono ?_; rintro ev w1 ⟨rfl, hb⟩; have HB := Lib.hid hb; clear hb)
  go_ret2
  exact ⟨rfl, HB.out.alloc HB.out.size _⟩
theorem cell_row_two (w : World) (o : Obj) (l : List Value) (t : TypeId) : ∀ j u, l[j]? = some u → ((w.alloc o).alloc (.cells l.toArray t)).cell? ((⟨w.heap.size + 1, 0, none⟩ : Addr).add j) = some u := fun j u h => by
  have := heap_alloc_new (w.alloc o) (.cells l.toArray t)
  rw [World.size_alloc] at this
  rw [Addr.add_lit, Nat.zero_add]
  have h2 : l.toArray[j]? = some u := by simpa using h
  unfold World.cell?
  dsimp only
  rw [this]
  exact h2
set_option maxHeartbeats 8000000 in
set_option maxRecDepth 100000 in
theorem limits_tower (hA : GramAwake) (a b : Int) (n : Nat) (hn : n = 200 ∨ n = 201) (ha : a % 2 = 0) (hb : 200 + b % 2 = n) (ha0 : 0 ≤ a) (ha1 : a ≤ 255) (hb0 : 0 ≤ b) (hb1 : b ≤ 255) (w : World) (hg : w.cell? ⟨0, 0, none⟩ = some (rt 29)) :
    Calls Tryd.prog 4 #[.int .u8 a, .int .u8 b] w fun e w' => e = .returned (.bool true) ∧ Below w.heap.size w w' := by
  unfold GramAwake at hA
  have HA := Lib.hid hA
  clear hA
  go_enter Tryd.func4, Tryd.ntmps4
  go_wp2_with (go_at_call 5; (with_reducible refine (HA.out _).mono ?_); rintro e w2 ⟨rfl, hb⟩; have HW := Lib.hid hb; clear hb)
  have hst := TowAt.start w2
  obtain ⟨W3, hW3⟩ : ∃ W3, ((w2.alloc (.cells #[.string ⟨#[65]⟩, .int .i64 0] 41)).alloc (.cells #[.int .i64 0, .slice none 0 0, .int .i64 0, .int .u64 0, .int .u64 0, .int .u64 0, .int .u64 0] 47)).alloc (.cells #[.slice (some ⟨w2.heap.size, 0, none⟩) 1 1, .slice (some ⟨w2.heap.size + 1, 0, none⟩) 1 1] 25) = W3 := ⟨_, rfl⟩
  rw [hW3] at hst
  rw [hW3]
  clear hW3
  obtain ⟨ie, hie, hze0, hze1, hze2⟩ := info_parts infoNode
  go_loopw [7] (fun c wr => ∃ k : Nat, 1 ≤ k ∧ k ≤ n ∧ c = .int .i64 k ∧ TowAt w2 k wr) (fun c _ => n - (intOf c).toNat)
  case atStart => exact ⟨1, Nat.le_refl _, by omega, rfl, hst⟩
  case round =>
    clear hst ha
    obtain ⟨k, hk1, hkn, rfl, v, qs, h1, h2, h3, h4, h5, h6⟩ := hrel
    have H1 := Lib.hid h1
    have H2 := Lib.hid h2
    have H3 := Lib.hid h3
    have H6 := Lib.hid h6
    have g1 : wr.cell? ⟨w2.heap.size + 1 + 1, 1, none⟩ = some v := isGram1 h3
    obtain ⟨va, vc, rfl⟩ := own_slice h4
    by_cases hlt : k < n
    · have H4 := Lib.hid h4
      have hsz : w2.heap.size + 2 < wr.heap.size := (Array.getElem?_eq_some_iff.1 h3).1
      have z1 : (k : Int) < (n : Int) := by omega
      clear h1 h2 h3 h6 h4
      go_wp2_with (at_builtin; refine wpList_append_own _ rfl _ _ 23 rfl w2.heap.size 47 ie (.agg #[.int .i64 0, .slice none 0 0, .int .i64 0, .int .u64 0, .int .u64 0, .int .u64 0, .int .u64 0]) 7 72 Tryd.underlying23 hie hze0 hze1 hze2 rfl (by decide) _ k _ rfl (ownsRow_grown H4.out (two_new wr _ _)) ⟨wr.heap.size + 1, 0, none⟩ 1 1 [.int .i64 7, .slice (some ⟨wr.heap.size, 0, none⟩) 1 1, .int .i64 0, .int .u64 0, .int .u64 0, .int .u64 0, .int .u64 0] rfl rfl (cell_row_two wr _ _ _) (by simp [Value.oneCell']) (by unfold maxLen; omega) (by omega) (by simp; omega) ?_; intro v' w' hown' hgrow _; obtain ⟨va', vc', rfl⟩ := own_slice hown'; have hgm := tow_gram H3.out H4.out hgrow; have g2 : w'.cell? ⟨w2.heap.size + 1 + 1, 1, none⟩ = _ := isGram1 hgm; have g3 : w'.frozen? ⟨w2.heap.size + 1 + 1, 1, none⟩ = false := isGramF hgm 1; have HO := Lib.hid hown'; have HG := Lib.hid hgrow; clear hown' hgrow hgm)
      go_roundw
      case rel => exact ⟨k + 1, by omega, by omega, by go_num, TowAt.step (by omega) H1.out H2.out H3.out H4.out h5 H6.out HO.out HG.out⟩
      case measure => simp [intOf]; omega
    · obtain rfl : k = n := by omega
      have z1 : ¬ (k : Int) < (k : Int) := by omega
      have g0 : wr.cell? ⟨w2.heap.size + 1 + 1, 0, none⟩ = some (.slice (some ⟨w2.heap.size, 0, none⟩) 1 1) := isGram0 h3
      have r0 : wr.cell? ⟨w2.heap.size, 0, none⟩ = some (.string ⟨#[65]⟩) := by simp [World.cell?, h2]
      have r1 : wr.cell? ⟨w2.heap.size, 1, none⟩ = some (.int .i64 0) := by simp [World.cell?, h2]
      have rf : wr.frozen? ⟨w2.heap.size, 1, none⟩ = false := ruleF h2 1
      have hbw := HW.out.trans (h1.mono HW.out.size)
      obtain ⟨t1, t2, t3⟩ := tow_root (by omega) h2 h3 h4 h5 h6 ((k : Int) - 1)
      have hb5 := hbw.setCell (p := ⟨w2.heap.size, 1, none⟩) HW.out.size (.int .i64 ((k : Int) - 1))
      clear h1 h2 h3 h4 h6 hkn
      go_upto_region 11 with fail
      generalize wr.setCell ⟨w2.heap.size, 1, none⟩ (.int .i64 ((k : Int) - 1)) = W5 at t1 t2 t3 hb5 ⊢
      have m0 : W5.cell? ⟨w2.heap.size + 1 + 1, 0, none⟩ = some (.slice (some ⟨w2.heap.size, 0, none⟩) 1 1) := isGram0 t1
      have m1 : W5.cell? ⟨w2.heap.size + 1 + 1, 1, none⟩ = some (.slice va k vc) := isGram1 t1
      have HC := Lib.hid (fun (W : World) (h : Below W5.heap.size W5 W) => check_any _ _ _ _ W (t2.kept h (Nat.le_refl _)) (t3.kept h (Nat.le_refl _)) (fun r hr => by obtain rfl := List.mem_singleton.1 hr; show 1 ≤ 2000000; omega))
      have HG := Lib.hid (fun (W : World) (h : Below W5.heap.size W5 W) => kept_cell hg (hb5.trans (h.mono hb5.size)))
      have HB5 := Lib.hid hb5
      clear t1 t2 t3 hb5 g0 g1 r0 r1 rf hbw
      rcases hn with rfl | rfl
      · rw [show (((200 : Nat) : Int) - 1) = 199 from rfl, tow200] at HC
        unfold ChkIs at HC
        have HN := Lib.hid Code_nil
        have HM := Lib.hid At_nil
        go_wp2_with (first
          | (go_at_call 7; (with_reducible refine (HC.out _ (Below.refl _ _)).mono ?_); rintro e w6 ⟨rfl, hb6⟩; have n0 := kept_cell m0 hb6; have n1 := kept_cell m1 hb6; have HB6 := Lib.hid hb6; clear hb6 m0 m1)
          | (go_at_call 9; (with_reducible refine (HN.out _).mono ?_); rintro e w7 ⟨rfl, hb7⟩; replace n0 := kept_cell n0 hb7; replace n1 := kept_cell n1 hb7; have HB7 := Lib.hid (HB6.out.trans (hb7.mono HB6.out.size)); clear hb7)
          | (go_at_call 7; (with_reducible refine (HC.out _ HB7.out).mono ?_); rintro e w8 ⟨rfl, hb8⟩; have HB8 := Lib.hid (HB7.out.trans (hb8.mono HB7.out.size)); clear hb8)
          | (go_at_call 11; (with_reducible refine (HM.out _).mono ?_); rintro e w9 ⟨rfl, hb9⟩; have HB9 := Lib.hid (HB8.out.trans (hb9.mono HB8.out.size)); clear hb9))
        go_ret
        exact ⟨rfl, HB5.out.trans (HB9.out.mono HB5.out.size)⟩
      · rw [show (((201 : Nat) : Int) - 1) = 200 from rfl, tow201] at HC
        unfold ChkIs PartErr at HC
        have K1 := Lib.hid (fun (W : World) (b : Nat) (hi : (Err.within b sNodes (.fault 5 ((200 : Nat) : Int))).In W) (h : Below W5.heap.size W5 W) => Code_some (.within b sNodes (.fault 5 ((200 : Nat) : Int))) 5 W rfl hi (HG.out W h))
        have K3 := Lib.hid (fun (W : World) (b : Nat) (hi : (Err.within b sNodes (.fault 5 ((200 : Nat) : Int))).In W) (h : Below W5.heap.size W5 W) => At_some (.within b sNodes (.fault 5 ((200 : Nat) : Int))) 5 ((200 : Nat) : Int) W rfl hi (HG.out W h))
        simp only [Err.val] at K1 K3
        go_wp2_with (first
          | (go_at_call 7; (with_reducible refine (HC.out _ (Below.refl _ _)).mono ?_); rintro e w6 ⟨⟨b6, rfl, hi6⟩, hb6⟩; have n0 := kept_cell m0 hb6; have n1 := kept_cell m1 hb6; have HI := Lib.hid hi6; have HB6 := Lib.hid hb6; clear hb6 m0 m1 hi6)
          | (go_at_call 9; (with_reducible refine (K1.out _ _ HI.out HB6.out).mono ?_); rintro e w7 ⟨rfl, hb7⟩; replace n0 := kept_cell n0 hb7; replace n1 := kept_cell n1 hb7; have HB7 := Lib.hid (HB6.out.trans (hb7.mono HB6.out.size)); clear hb7 HI)
          | (go_at_call 7; (with_reducible refine (HC.out _ HB7.out).mono ?_); rintro e w8 ⟨⟨b8, rfl, hi8⟩, hb8⟩; have HI := Lib.hid hi8; have HB8 := Lib.hid (HB7.out.trans (hb8.mono HB7.out.size)); clear hb8 hi8)
          | (go_at_call 11; (with_reducible refine (K3.out _ _ HI.out HB8.out).mono ?_); rintro e w9 ⟨rfl, hb9⟩; have HB9 := Lib.hid (HB8.out.trans (hb9.mono HB8.out.size)); clear hb9 HI))
        go_ret
        exact ⟨rfl, HB5.out.trans (HB9.out.mono HB5.out.size)⟩
set_option maxHeartbeats 8000000 in
set_option maxRecDepth 100000 in
theorem limits_many (hA : GramAwake) (a b : Int) (m : Nat) (hn : m = 10000 ∨ m = 10001) (ha : a % 2 = 1) (hb : 10000 + b % 2 = m) (ha0 : 0 ≤ a) (ha1 : a ≤ 255) (hb0 : 0 ≤ b) (hb1 : b ≤ 255) (w : World) (hg : w.cell? ⟨0, 0, none⟩ = some (rt 29)) :
    Calls Tryd.prog 4 #[.int .u8 a, .int .u8 b] w fun e w' => e = .returned (.bool true) ∧ Below w.heap.size w w' := by
  unfold GramAwake at hA
  have HA := Lib.hid hA
  clear hA
  obtain ⟨ie, hie, hze0, hze1, hze2⟩ := info_parts infoNode
  have hmk : ∀ W : World, (Instr.makeSlice 23 (.int .i64 (m : Int)) (.int .i64 (m : Int))).run Tryd.prog W = .ok (.slice (some ⟨W.heap.size, 0, none⟩) m m) (W.alloc (.cells (madeCells zC (m * 7)) 47)) := fun W => by
    have hr := run_make (P := Tryd.prog) W 23 47 ie _ Tryd.underlying23 hie hze0 .i64 .i64 m m (by omega) (Int.le_refl _) (by rw [hze2]; omega) (by omega)
    rw [hze1, Int.toNat_natCast] at hr
    exact hr
  clear hie hze0 hze1 hze2
  go_enter Tryd.func4, Tryd.ntmps4
  go_upto_region 14 with (go_at_call 5; (with_reducible refine (HA.out _).mono ?_); rintro e w2 ⟨rfl, hb⟩; have HW := Lib.hid hb; clear hb)
  have hst := TowAt.start w2
  obtain ⟨W3, hW3⟩ : ∃ W3, ((w2.alloc (.cells #[.string ⟨#[65]⟩, .int .i64 0] 41)).alloc (.cells #[.int .i64 0, .slice none 0 0, .int .i64 0, .int .u64 0, .int .u64 0, .int .u64 0, .int .u64 0] 47)).alloc (.cells #[.slice (some ⟨w2.heap.size, 0, none⟩) 1 1, .slice (some ⟨w2.heap.size + 1, 0, none⟩) 1 1] 25) = W3 := ⟨_, rfl⟩
  rw [hW3] at hst
  rw [hW3]
  clear hW3
  obtain ⟨v, qs, h1, h2, h3, -⟩ := hst
  have hgl : w2.heap.size + 2 < W3.heap.size := (Array.getElem?_eq_some_iff.1 h3).1
  obtain ⟨t1, t2, t3⟩ := many_root (m := m) (by omega) h2 h3
  have hbw := HW.out.trans (h1.mono HW.out.size)
  have hb5 := (hbw.alloc hbw.size (.cells (madeCells zC (m * 7)) 47)).setCell (p := ⟨w2.heap.size + 2, 1, none⟩) (Nat.le_trans HW.out.size (Nat.le_add_right _ _)) (.slice (some ⟨W3.heap.size, 0, none⟩) m m)
  have g1 : (W3.alloc (.cells (madeCells zC (m * 7)) 47)).cell? ⟨w2.heap.size + 1 + 1, 1, none⟩ = some v := by rw [World.cell?_alloc_lt _ _ ⟨w2.heap.size + 1 + 1, 1, none⟩ hgl]; exact isGram1 h3
  have gf : (W3.alloc (.cells (madeCells zC (m * 7)) 47)).frozen? ⟨w2.heap.size + 1 + 1, 1, none⟩ = false := by rw [World.frozen?_alloc_old _ _ ⟨w2.heap.size + 1 + 1, 1, none⟩ (Nat.ne_of_lt hgl)]; exact isGramF h3 1
  clear h1 h2 h3 hgl hbw
  go_upto_region 16 with fail
  rw [show w2.heap.size + 2 = w2.heap.size + 1 + 1 from rfl] at t1 t2 t3 hb5
  generalize (W3.alloc (.cells (madeCells zC (m * 7)) 47)).setCell ⟨w2.heap.size + 1 + 1, 1, none⟩ (.slice (some ⟨W3.heap.size, 0, none⟩) m m) = W5 at t1 t2 t3 hb5 ⊢
  have m0 : W5.cell? ⟨w2.heap.size + 1 + 1, 0, none⟩ = some (.slice (some ⟨w2.heap.size, 0, none⟩) 1 1) := isGram0 t1
  have m1 : W5.cell? ⟨w2.heap.size + 1 + 1, 1, none⟩ = some (.slice (some ⟨W3.heap.size, 0, none⟩) m m) := isGram1 t1
  have HC := Lib.hid (check_any _ _ _ _ W5 t2 t3 (fun r hr => by obtain rfl := List.mem_singleton.1 hr; show 1 ≤ 2000000; omega))
  have HG := Lib.hid (fun (W : World) (h : Below W5.heap.size W5 W) => kept_cell hg (hb5.trans (h.mono hb5.size)))
  have HB5 := Lib.hid hb5
  clear t1 t2 t3 hb5 g1 gf hmk
  rcases hn with rfl | rfl
  · rw [rep_some 10000 (Nat.le_refl _) (by omega)] at HC
    unfold ChkIs at HC
    have K1 := Lib.hid (fun (W : World) (h : Below W5.heap.size W5 W) => Code_some (.code 10) 10 W rfl trivial (HG.out W h))
    simp only [Err.val] at K1
    go_wp2_with (first
      | (go_at_call 7; (with_reducible refine HC.out.mono ?_); rintro e w6 ⟨rfl, hb6⟩; have HB6 := Lib.hid hb6; clear hb6 m0 m1)
      | (go_at_call 9; (with_reducible refine (K1.out _ HB6.out).mono ?_); rintro e w7 ⟨rfl, hb7⟩; have HB7 := Lib.hid (HB6.out.trans (hb7.mono HB6.out.size)); clear hb7))
    go_ret
    exact ⟨rfl, HB5.out.trans (HB7.out.mono HB5.out.size)⟩
  · rw [rep_many 10001 (by omega)] at HC
    unfold ChkIs at HC
    have K1 := Lib.hid (fun (W : World) (h : Below W5.heap.size W5 W) => Code_some (.code 4) 4 W rfl trivial (HG.out W h))
    simp only [Err.val] at K1
    go_wp2_with (first
      | (go_at_call 7; (with_reducible refine HC.out.mono ?_); rintro e w6 ⟨rfl, hb6⟩; have HB6 := Lib.hid hb6; clear hb6 m0 m1)
      | (go_at_call 9; (with_reducible refine (K1.out _ HB6.out).mono ?_); rintro e w7 ⟨rfl, hb7⟩; have HB7 := Lib.hid (HB6.out.trans (hb7.mono HB6.out.size)); clear hb7))
    go_ret
    exact ⟨rfl, HB5.out.trans (HB7.out.mono HB5.out.size)⟩
theorem limits_any (hA : GramAwake) (a b : Int) (w : World) (ha0 : 0 ≤ a) (ha1 : a ≤ 255) (hb0 : 0 ≤ b) (hb1 : b ≤ 255) (hg : w.cell? ⟨0, 0, none⟩ = some (rt 29)) :
    Calls Tryd.prog 4 #[.int .u8 a, .int .u8 b] w fun e w' => e = .returned (.bool true) ∧ Below w.heap.size w w' := by
  by_cases h : a % 2 = 0
  · by_cases h2 : b % 2 = 0
    · exact limits_tower hA a b 200 (.inl rfl) h (by omega) ha0 ha1 hb0 hb1 w hg
    · exact limits_tower hA a b 201 (.inr rfl) h (by omega) ha0 ha1 hb0 hb1 w hg
  · by_cases h2 : b % 2 = 0
    · exact limits_many hA a b 10000 (.inl rfl) (by omega) (by omega) ha0 ha1 hb0 hb1 w hg
    · exact limits_many hA a b 10001 (.inr rfl) (by omega) (by omega) ha0 ha1 hb0 hb1 w hg
end Go.Proofs.YtbhejkjgebhpoaaDoor
