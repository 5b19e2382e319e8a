/- The reference's Literal; the walk of the law BuildLiterals. -/
import Derived.Test.YtnebdnonkefloaaBuildLit
namespace Go.Proofs.Ytnebdnonkefloaa
open Go.RowKit
/-- The items of a literal so far: the sequence's own, and those of the bytes before k. -/
def litPre (l : List Nat) : List PI := if l.length ≤ 1 then [] else [seqI l.length]
theorem litItems_pre (l : List Nat) (h : l.length ≠ 0) : litItems l = litPre l ++ l.map clsI := by
  unfold litItems litPre
  rw [if_neg h]
  split <;> rename_i h1
  · rw [if_pos (by omega)]; rfl
  · rw [if_neg (by omega)]; rfl
def RLitIs (l : List Nat) (w : World) (e : Ending) (w' : World) : Prop := ∃ u, e = .returned u ∧ w'.ownsRow w.heap.size 32 7 u (litItems l).length (itemsC (litItems l)) ∧ Below w.heap.size w w'
set_option maxHeartbeats 8000000 in
set_option maxRecDepth 100000 in
theorem rliteral_any (va : Option Addr) (vc : Nat) (l : List Nat) (w : World) (hv : RowAt w (.slice va l.length vc) (u8s l)) (hcap : l.length ≤ vc) (hvc : vc ≤ 9223372036854775807) (hl : l.length ≤ 1000000) (hc : ∀ c, c ∈ l → c < 256) : Calls Try.prog 27 #[.slice va l.length vc] w (RLitIs l w) := by
  obtain ⟨ii, hii, hz0, hz1, hz2⟩ := info_parts infoRItem
  have HV := Lib.hid hv
  have HC := Lib.hid hc
  clear hv hc
  by_cases h0 : l.length = 0
  · have hl0 := List.length_eq_zero_iff.1 h0
    subst hl0
    have ho : (w.alloc (.cells #[.int .i64 0, .int .i64 0, .int .i64 0, .int .u64 0, .int .u64 0, .int .u64 0, .int .u64 0] 32)).ownsRow w.heap.size 32 7 (.slice (some ⟨w.heap.size, 0, none⟩) 1 1) 1 (itemC ⟨0, 0, 0, 0, 0, 0, 0⟩) := Bl.own (by simpa [itemC] using Bl.new w 32 #[.int .i64 0, .int .i64 0, .int .i64 0, .int .u64 0, .int .u64 0, .int .u64 0, .int .u64 0]) (Nat.le_refl _) rfl (by decide)
    have HO := Lib.hid ho
    clear ho h0
    go_enter Try.func27, Try.ntmps27
    go_wp2
    go_ret
    exact ⟨_, rfl, by simpa [litItems, itemsC] using HO.out, one_new _ _⟩
  · have hL := litItems_pre l h0
    have n0 : ¬ (l.length : Int) = 0 := by omega
    obtain ⟨b, off, rfl, hcell⟩ : ∃ b off, va = some ⟨b, off, none⟩ ∧ ∀ (k c : Nat), l[k]? = some c → w.cell? ⟨b, off + k, none⟩ = some (.int .u8 (c : Int)) := by
      obtain ⟨a', c', he, h⟩ := HV.out
      injection he with h1 h2 h3
      subst h1
      rcases h with h | ⟨b, off, e, h⟩
      · unfold u8s at h; rw [List.map_eq_nil_iff] at h; exact absurd (by rw [h]; rfl) h0
      · exact ⟨b, off, e, fun k c hk => h k _ (by unfold u8s; rw [List.getElem?_map, hk]; rfl)⟩
    have HCELL := Lib.hid hcell
    clear hcell HV
    by_cases h1 : l.length ≤ 1
    · have hP : litPre l = [] := by unfold litPre; rw [if_pos h1]
      rw [hP] at hL
      clear hP
      obtain ⟨P, hP⟩ : ∃ P : List PI, ([] : List PI) = P := ⟨_, rfl⟩
      have hPl : P.length ≤ 1 := by rw [← hP]; simp
      have HS : Hid (w.ownsRow w.heap.size 32 7 (.slice none 0 0) (P ++ (l.take 0).map clsI).length (itemsC (P ++ (l.take 0).map clsI)) ∧ Below w.heap.size w w) := Lib.hid ⟨by rw [← hP]; exact World.ownsRow_nil _ _ _ _, Below.refl _ _⟩
      rw [hP] at hL
      have HLI := Lib.hid hL
      clear hL
      have n1 : ¬ 1 < (l.length : Int) := by omega
      clear hP
      go_enter Try.func27, Try.ntmps27
      go_wp2
      go_loopw [4, 3] (fun c u wr => ∃ k : Nat, k ≤ l.length ∧ c = .int .i64 k ∧ wr.ownsRow w.heap.size 32 7 u (P ++ (l.take k).map clsI).length (itemsC (P ++ (l.take k).map clsI)) ∧ Below w.heap.size w wr) (fun c _ _ => l.length - (intOf c).toNat)
      case atStart => exact ⟨0, Nat.zero_le _, rfl, HS.out.1, HS.out.2⟩
      case round =>
        obtain ⟨k, hk, rfl, ho, hb⟩ := hrel
        by_cases hlt : k < l.length
        · obtain ⟨c, hx⟩ : ∃ c, l[k]? = some c := ⟨_, List.getElem?_eq_getElem hlt⟩
          have c0 : wr.cell? ⟨b, off + k, none⟩ = some (.int .u8 (c : Int)) := by have d0 := HCELL.out k c hx; rw [(bcell hb).1 _ _ (lt_of_cell d0)]; exact d0
          have hcc := HC.out c (List.mem_of_getElem? hx)
          have hC := rlist_any [(c : Int)] (.slice (some ⟨b, off + k, none⟩) 1 (vc - k)) wr ⟨_, vc - k, rfl, .inr ⟨_, _, rfl, fun i u hu => by
            match i, hu with
            | 0, hu => obtain rfl : _ = u := by simpa using hu
                       exact c0⟩⟩ (fun x hx => by obtain rfl := List.mem_singleton.1 hx; omega) (by simp)
          obtain ⟨L, hL⟩ : ∃ L, P ++ (l.take k).map clsI = L := ⟨_, rfl⟩
          have hLl : L.length ≤ 2000000 := by rw [← hL, List.length_append, List.length_map, List.length_take]; omega
          have hL2 : P ++ (l.take (k + 1)).map clsI = L ++ [clsI c] := by rw [cls_take l k c hx, ← List.append_assoc, hL]
          rw [hL] at ho
          obtain ⟨ta, tc, rfl⟩ := own_slice' ho
          have hX : clsI c = ⟨1, 0, 0, setW (lset [(c : Int)]) 0, setW (lset [(c : Int)]) 1, setW (lset [(c : Int)]) 2, setW (lset [(c : Int)]) 3⟩ := rfl
          generalize setW (lset [(c : Int)]) 0 = s0 at hC hX
          generalize setW (lset [(c : Int)]) 1 = s1 at hC hX
          generalize setW (lset [(c : Int)]) 2 = s2 at hC hX
          generalize setW (lset [(c : Int)]) 3 = s3 at hC hX
          have k1 : (k : Int) < (l.length : Int) := by omega
          have HL2 := Lib.hid hL2
          have HX := Lib.hid hX
          have HO := Lib.hid ho
          have HB := Lib.hid hb
          have hbs := hb.size
          have HCC := Lib.hid hC
          have e1 : (k : Int) ≤ (k : Int) + 1 := by omega
          have e2 : (k : Int) + 1 ≤ (vc : Int) := by omega
          have e3 : ¬ vc = k := by omega
          have e4 : (0 : Int) ≤ (k : Int) + 1 := by omega
          have e5 : IntKind.i64.wrap ((k : Int) + 1) = (k : Int) + 1 := by rw [IntKind.wrap_i64]; omega
          have e6 : ((k : Int) + 1).toNat = k + 1 := by omega
          have e7 : ¬ (vc : Int) < (k : Int) + 1 := by omega
          have e8 : ¬ (k : Int) + 1 < (k : Int) := by omega
          clear hC hL2 hX hL ho hb hx hcc
          go_wp2_with (first
            | (go_at_call 47; (with_reducible refine HCC.out.mono ?_); rintro e w2 ⟨rfl, hb2⟩; have HO2 := Lib.hid (ownsRow_grown HO.out hb2); have HB2 := Lib.hid (HB.out.trans (hb2.mono hbs)); have hbs2 := hb2.size; clear hb2)
            | (at_builtin; refine wpList_append_own _ rfl _ _ 25 rfl w.heap.size 32 ii _ 7 56 Try.underlying25 hii hz0 hz1 hz2 rfl (by decide) _ L.length _ rfl (ownsRow_grown HO2.out (one_new w2 _)) ⟨w2.heap.size, 0, none⟩ 1 1 (itemC ⟨1, 0, 0, s0, s1, s2, s3⟩) rfl rfl (cell_row_one w2 _ _) (by simp [itemC, Value.oneCell']) (by unfold maxLen; omega) (by omega) (by simp; omega) ?_; intro v5 w5 hown' hgrow _; have HO5 := Lib.hid hown'; have HB5 := Lib.hid ((HB2.out.trans ((one_new w2 _).mono (Nat.le_trans hbs hbs2))).grown hgrow (Nat.le_trans (Nat.le_trans hbs hbs2) (one_new w2 _).size) (fun g e => (HO2.out.lt g e).1)); clear hown' hgrow))
          go_roundw
          case rel => exact ⟨k + 1, by omega, by go_num, by rw [HL2.out, HX.out, itemsC_append, List.length_append]; simpa [itemsC] using HO5.out, HB5.out⟩
          case measure => simp [intOf]; omega
        · obtain rfl : k = l.length := by omega
          have k1 : ¬ (l.length : Int) < (l.length : Int) := by omega
          rw [List.take_length] at ho
          rw [← HLI.out] at ho
          have HO := Lib.hid ho
          have HB := Lib.hid hb
          clear ho hb
          go_wp2
          go_ret
          exact ⟨_, rfl, HO.out, HB.out⟩
    · have hP : litPre l = [seqI l.length] := by unfold litPre; rw [if_neg h1]
      rw [hP] at hL
      clear hP
      have n1 : 1 < (l.length : Int) := by omega
      obtain ⟨P, hP⟩ : ∃ P : List PI, [seqI l.length] = P := ⟨_, rfl⟩
      have hPl : P.length ≤ 1 := by rw [← hP]; simp
      rw [hP] at hL
      have HLI := Lib.hid hL
      clear hL
      have HP := Lib.hid hP
      clear hP
      go_enter Try.func27, Try.ntmps27
      go_upto_region 6 with (at_builtin; (refine wpList_append_own _ rfl _ _ 25 rfl w.heap.size 32 ii _ 7 56 Try.underlying25 hii hz0 hz1 hz2 rfl (by decide) (.slice none 0 0) 0 _ rfl (World.ownsRow_nil _ _ _ _) ⟨w.heap.size, 0, none⟩ 1 1 (itemC (seqI l.length)) rfl rfl (cell_row_one w _ _) (by simp [itemC, Value.oneCell']) (by unfold maxLen; omega) (by omega) (by simp) ?_); intro v5 w5 hown' hgrow _; have HS := Lib.hid (And.intro hown' ((one_new w _).grown hgrow (one_new w _).size (fun g e => ((World.ownsRow_nil w w.heap.size 32 7).lt g e).1))); clear hown' hgrow)
      replace HS : Hid (w5.ownsRow w.heap.size 32 7 v5 (P ++ (l.take 0).map clsI).length (itemsC (P ++ (l.take 0).map clsI)) ∧ Below w.heap.size w w5) := Lib.hid ⟨by rw [← HP.out]; simpa [itemsC] using HS.out.1, HS.out.2⟩
      go_wp2
      go_loopw [4, 3] (fun c u wr => ∃ k : Nat, k ≤ l.length ∧ c = .int .i64 k ∧ wr.ownsRow w.heap.size 32 7 u (P ++ (l.take k).map clsI).length (itemsC (P ++ (l.take k).map clsI)) ∧ Below w.heap.size w wr) (fun c _ _ => l.length - (intOf c).toNat)
      case atStart => exact ⟨0, Nat.zero_le _, rfl, HS.out.1, HS.out.2⟩
      case round =>
        obtain ⟨k, hk, rfl, ho, hb⟩ := hrel
        by_cases hlt : k < l.length
        · obtain ⟨c, hx⟩ : ∃ c, l[k]? = some c := ⟨_, List.getElem?_eq_getElem hlt⟩
          have c0 : wr.cell? ⟨b, off + k, none⟩ = some (.int .u8 (c : Int)) := by have d0 := HCELL.out k c hx; rw [(bcell hb).1 _ _ (lt_of_cell d0)]; exact d0
          have hcc := HC.out c (List.mem_of_getElem? hx)
          have hC := rlist_any [(c : Int)] (.slice (some ⟨b, off + k, none⟩) 1 (vc - k)) wr ⟨_, vc - k, rfl, .inr ⟨_, _, rfl, fun i u hu => by
            match i, hu with
            | 0, hu => obtain rfl : _ = u := by simpa using hu
                       exact c0⟩⟩ (fun x hx => by obtain rfl := List.mem_singleton.1 hx; omega) (by simp)
          obtain ⟨L, hL⟩ : ∃ L, P ++ (l.take k).map clsI = L := ⟨_, rfl⟩
          have hLl : L.length ≤ 2000000 := by rw [← hL, List.length_append, List.length_map, List.length_take]; omega
          have hL2 : P ++ (l.take (k + 1)).map clsI = L ++ [clsI c] := by rw [cls_take l k c hx, ← List.append_assoc, hL]
          rw [hL] at ho
          obtain ⟨ta, tc, rfl⟩ := own_slice' ho
          have hX : clsI c = ⟨1, 0, 0, setW (lset [(c : Int)]) 0, setW (lset [(c : Int)]) 1, setW (lset [(c : Int)]) 2, setW (lset [(c : Int)]) 3⟩ := rfl
          generalize setW (lset [(c : Int)]) 0 = s0 at hC hX
          generalize setW (lset [(c : Int)]) 1 = s1 at hC hX
          generalize setW (lset [(c : Int)]) 2 = s2 at hC hX
          generalize setW (lset [(c : Int)]) 3 = s3 at hC hX
          have k1 : (k : Int) < (l.length : Int) := by omega
          have HL2 := Lib.hid hL2
          have HX := Lib.hid hX
          have HO := Lib.hid ho
          have HB := Lib.hid hb
          have hbs := hb.size
          have HCC := Lib.hid hC
          have e1 : (k : Int) ≤ (k : Int) + 1 := by omega
          have e2 : (k : Int) + 1 ≤ (vc : Int) := by omega
          have e3 : ¬ vc = k := by omega
          have e4 : (0 : Int) ≤ (k : Int) + 1 := by omega
          have e5 : IntKind.i64.wrap ((k : Int) + 1) = (k : Int) + 1 := by rw [IntKind.wrap_i64]; omega
          have e6 : ((k : Int) + 1).toNat = k + 1 := by omega
          have e7 : ¬ (vc : Int) < (k : Int) + 1 := by omega
          have e8 : ¬ (k : Int) + 1 < (k : Int) := by omega
          clear hC hL2 hX hL ho hb hx hcc
          go_wp2_with (first
            | (go_at_call 47; (with_reducible refine HCC.out.mono ?_); rintro e w2 ⟨rfl, hb2⟩; have HO2 := Lib.hid (ownsRow_grown HO.out hb2); have HB2 := Lib.hid (HB.out.trans (hb2.mono hbs)); have hbs2 := hb2.size; clear hb2)
            | (at_builtin; refine wpList_append_own _ rfl _ _ 25 rfl w.heap.size 32 ii _ 7 56 Try.underlying25 hii hz0 hz1 hz2 rfl (by decide) _ L.length _ rfl (ownsRow_grown HO2.out (one_new w2 _)) ⟨w2.heap.size, 0, none⟩ 1 1 (itemC ⟨1, 0, 0, s0, s1, s2, s3⟩) rfl rfl (cell_row_one w2 _ _) (by simp [itemC, Value.oneCell']) (by unfold maxLen; omega) (by omega) (by simp; omega) ?_; intro v5 w5 hown' hgrow _; have HO5 := Lib.hid hown'; have HB5 := Lib.hid ((HB2.out.trans ((one_new w2 _).mono (Nat.le_trans hbs hbs2))).grown hgrow (Nat.le_trans (Nat.le_trans hbs hbs2) (one_new w2 _).size) (fun g e => (HO2.out.lt g e).1)); clear hown' hgrow))
          go_roundw
          case rel => exact ⟨k + 1, by omega, by go_num, by rw [HL2.out, HX.out, itemsC_append, List.length_append]; simpa [itemsC] using HO5.out, HB5.out⟩
          case measure => simp [intOf]; omega
        · obtain rfl : k = l.length := by omega
          have k1 : ¬ (l.length : Int) < (l.length : Int) := by omega
          rw [List.take_length] at ho
          rw [← HLI.out] at ho
          have HO := Lib.hid ho
          have HB := Lib.hid hb
          clear ho hb
          go_wp2
          go_ret
          exact ⟨_, rfl, HO.out, HB.out⟩
theorem items_own {w : World} {base : Nat} {t : TypeId} {v : Value} {L : List PI} (hm : L.length ≤ maxLen) (ho : w.ownsRow base t 7 v L.length (itemsC L)) : ItemsAt w v L := ⟨hm, CellsAt.of_own ho⟩
theorem litItems_length (l : List Nat) : (litItems l).length ≤ l.length + 1 := by
  unfold litItems
  split
  · simp
  · split <;> simp
set_option maxHeartbeats 8000000 in
set_option maxRecDepth 100000 in
theorem lawLits_any (hA : BuildAwake) (va : Option Addr) (vc : Nat) (l : List Nat) (w : World) (hv : RowAt w (.slice va l.length vc) (u8s l)) (hcap : l.length ≤ vc) (hvc : vc ≤ 9223372036854775807) (hc : ∀ c, c ∈ l → c < 256) :
    Calls Try.prog 7 #[.slice va l.length vc] w fun e w' => e = .returned (.bool true) ∧ Below w.heap.size w w' := by
  unfold BuildAwake at hA
  have HA := Lib.hid hA
  have HV := Lib.hid hv
  have HC := Lib.hid hc
  clear hA hv hc
  by_cases hbig : 300 < l.length
  · have k1 : (300 : Int) < (l.length : Int) := by omega
    go_enter Try.func7, Try.ntmps7
    go_wp2_with (go_at_call 8; (with_reducible refine (HA.out _).mono ?_); rintro e w2 ⟨rfl, hb⟩; first | (have HW2 := Lib.hid (HW.out.trans (hb.mono HW.out.size)); clear hb) | (have HW := Lib.hid hb; clear hb))
    go_ret
    exact ⟨rfl, HW2.out⟩
  · have k1 : ¬ (300 : Int) < (l.length : Int) := by omega
    have hll := litItems_length l
    have hL1 : Hid (∀ W, Below w.heap.size w W → Calls Try.prog 26 #[.slice va l.length vc] W (LitIs l W)) := Lib.hid fun W hW => literal_any _ l W (HV.out.kept hW (Nat.le_refl _)) (by omega) HC.out
    have hL2 : Hid (∀ W, Below w.heap.size w W → Calls Try.prog 27 #[.slice va l.length vc] W (RLitIs l W)) := Lib.hid fun W hW => rliteral_any va vc l W (HV.out.kept hW (Nat.le_refl _)) hcap hvc (by omega) HC.out
    unfold LitIs at hL1
    unfold RLitIs at hL2
    have HLL := Lib.hid hll
    generalize litItems l = L at hL1 hL2 HLL
    clear hll
    have hS : Hid (∀ u v W, ItemsAt W u L → ItemsAt W v L → Calls Try.prog 24 #[u, v] W fun e w' => e = .returned (.bool true) ∧ Below W.heap.size W w') := Lib.hid fun u v W hu hv => sameItems_below u v L L W (by have := HLL.out; omega) hu hv true (decide_eq_true rfl)
    have hI : Hid (∀ u W, ItemsAt W u L → Calls Try.prog 25 #[u] W fun e w' => ∃ x, e = .returned x ∧ w'.ownsRow W.heap.size 32 7 x L.length (itemsC L) ∧ Below W.heap.size W w') := Lib.hid fun u W hu => lItems_any u L W (by have := HLL.out; omega) hu
    have HM : Hid (L.length ≤ maxLen) := Lib.hid (by have := HLL.out; unfold maxLen; omega)
    go_enter Try.func7, Try.ntmps7
    go_wp2_with (first
      | (go_at_call 8; (with_reducible refine (HA.out _).mono ?_); rintro e w2 ⟨rfl, hb⟩; have HW := Lib.hid hb; clear hb)
      | (go_at_call 26; (with_reducible refine (hL1.out _ HW.out).mono ?_); rintro e w3 ⟨u, rfl, ho, hb⟩; have HI3 := Lib.hid (items_own HM.out ho); have HW3 := Lib.hid (HW.out.trans (hb.mono HW.out.size)); clear ho hb)
      | (go_at_call 25; (with_reducible refine (hI.out _ _ HI3.out).mono ?_); rintro e w4 ⟨x, rfl, ho, hb⟩; have HI4 := Lib.hid (items_own HM.out ho); have HW4 := Lib.hid (HW3.out.trans (hb.mono HW3.out.size)); clear ho hb)
      | (go_at_call 27; (with_reducible refine (hL2.out _ HW4.out).mono ?_); rintro e w5 ⟨y, rfl, ho, hb⟩; have HI5 := Lib.hid (items_own HM.out ho); have HI6 := Lib.hid (HI4.out.kept hb (Nat.le_refl _)); have HW5 := Lib.hid (HW4.out.trans (hb.mono HW4.out.size)); clear ho hb)
      | (go_at_call 24; (with_reducible refine (hS.out _ _ _ HI6.out HI5.out).mono ?_); rintro e w6 ⟨rfl, hb⟩; have HW6 := Lib.hid (HW5.out.trans (hb.mono HW5.out.size)); clear hb))
    go_ret
    exact ⟨rfl, HW6.out⟩
end Go.Proofs.Ytnebdnonkefloaa
