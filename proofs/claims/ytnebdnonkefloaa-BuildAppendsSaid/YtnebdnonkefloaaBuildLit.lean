/- The items of a literal: the program's and the reference's; the walk of the law BuildLiterals. -/
import Derived.Test.YtnebdnonkefloaaBuildLawOf
import Derived.Test.YtnebdnonkefloaaSetRef3
namespace Go.Proofs.Ytnebdnonkefloaa
open Go.RowKit
def clsI (c : Nat) : PI := ⟨1, 0, 0, setW (lset [(c : Int)]) 0, setW (lset [(c : Int)]) 1, setW (lset [(c : Int)]) 2, setW (lset [(c : Int)]) 3⟩
def seqI (n : Nat) : PI := ⟨3, n, 0, 0, 0, 0, 0⟩
def litItems (l : List Nat) : List PI := if l.length = 0 then [⟨0, 0, 0, 0, 0, 0, 0⟩] else if l.length = 1 then l.map clsI else seqI l.length :: l.map clsI
theorem u8s_int (l : List Nat) : u8s l = (l.map fun c : Nat => (c : Int)).map (Value.int .u8) := by unfold u8s; rw [List.map_map]; rfl
theorem Bl.own {w : World} {b base n : Nat} {t : TypeId} {cs : List Value} {size : Nat} (h : Bl w b t cs.toArray) (hb : base ≤ b) (hl : cs.length = n * size) (hn : n ≤ maxLen) : w.ownsRow base t size (.slice (some ⟨b, 0, none⟩) n n) n cs :=
  ⟨hl, .inr ⟨b, n, _, rfl, hb, h, Nat.le_refl _, hn, by simpa using hl, by rw [← hl]; simp⟩⟩
set_option maxHeartbeats 4000000 in
set_option maxRecDepth 100000 in
theorem class_any (c : Nat) (hc : c < 256) (w : World) : Calls Try.prog 45 #[.int .u8 (c : Int)] w fun e w' => e = .returned (itemV (clsI c)) ∧ Below w.heap.size w w' := by
  obtain ⟨W, hW⟩ : ∃ W, (w.alloc (.cells #[.int .i64 0, .int .i64 0, .int .i64 0, .int .u64 0, .int .u64 0, .int .u64 0, .int .u64 0] 64)).alloc (.cells #[.int .u8 (c : Int)] 5) = W := ⟨_, rfl⟩
  have hb : Below w.heap.size w W := by rw [← hW]; exact two_new _ _ _
  have hR : Bl W w.heap.size 64 #[.int .i64 0, .int .i64 0, .int .i64 0, .int .u64 0, .int .u64 0, .int .u64 0, .int .u64 0] := by rw [← hW]; repeat (first | (refine Bl.new' ?_; simp; done) | refine Bl.past ?_)
  have hS : Bl W (w.heap.size + 1) 5 #[.int .u8 (c : Int)] := by rw [← hW]; repeat (first | (refine Bl.new' ?_; simp; done) | refine Bl.past ?_)
  have hC := Lib.hid (of_any [(c : Int)] (.slice (some ⟨w.heap.size + 1, 0, none⟩) 1 1) W ⟨_, 1, rfl, .inr ⟨_, 0, rfl, fun i u hu => by
    match i, hu with
    | 0, hu => obtain rfl : _ = u := by simpa using hu
               exact hS.cell rfl⟩⟩ (fun x hx => by obtain rfl := List.mem_singleton.1 hx; omega) (by simp))
  have HR := Lib.hid hR
  have HB := Lib.hid hb
  clear hb hR hS
  unfold itemV clsI
  dsimp only
  generalize setW (lset [(c : Int)]) 0 = s0 at hC ⊢
  generalize setW (lset [(c : Int)]) 1 = s1 at hC ⊢
  generalize setW (lset [(c : Int)]) 2 = s2 at hC ⊢
  generalize setW (lset [(c : Int)]) 3 = s3 at hC ⊢
  go_enter Try.func45, Try.ntmps45
  go_wp2_with (go_at_call 55; (with_reducible refine hC.out.mono ?_); rintro e w2 ⟨rfl, hb2⟩; have hr := HR.out.below hb2; have r0 := hr.cell (o := 0) rfl; have r1 := hr.cell (o := 1) rfl; have r2 := hr.cell (o := 2) rfl; have r3 := hr.cell (o := 3) rfl; have r4 := hr.cell (o := 4) rfl; have r5 := hr.cell (o := 5) rfl; have r6 := hr.cell (o := 6) rfl; have rf := hr.free; have HR2 := Lib.hid hr; have HB2 := Lib.hid (HB.out.trans (hb2.mono HB.out.size)); clear hb2 hr)
  have hx := (((((((HR2.out.set' (o := 0) (.int .i64 1)).set' (o := 1) (.int .i64 0)).set' (o := 2) (.int .i64 0)).set' (o := 3) (.int .u64 s0)).set' (o := 4) (.int .u64 s1)).set' (o := 5) (.int .u64 s2)).set' (o := 6) (.int .u64 s3))
  simp only [List.setIfInBounds_toArray, List.set_cons_zero, List.set_cons_succ] at hx
  have x0 := hx.cell (o := 0) (u := .int .i64 1) rfl
  have x1 := hx.cell (o := 1) (u := .int .i64 0) rfl
  have x2 := hx.cell (o := 2) (u := .int .i64 0) rfl
  have x3 := hx.cell (o := 3) (u := .int .u64 s0) rfl
  have x4 := hx.cell (o := 4) (u := .int .u64 s1) rfl
  have x5 := hx.cell (o := 5) (u := .int .u64 s2) rfl
  have x6 := hx.cell (o := 6) (u := .int .u64 s3) rfl
  exact bodyPost_ret (v := .agg #[.int .i64 1, .int .i64 0, .int .i64 0, .int .u64 s0, .int .u64 s1, .int .u64 s2, .int .u64 s3]) (by simp [results, Try.results45, go_sem, x0, x1, x2, x3, x4, x5, x6]) rfl ⟨rfl, ((((((HB2.out.setCell (p := ⟨w.heap.size, 0, none⟩) (Nat.le_refl _) _).setCell (p := ⟨w.heap.size, 1, none⟩) (Nat.le_refl _) _).setCell (p := ⟨w.heap.size, 2, none⟩) (Nat.le_refl _) _).setCell (p := ⟨w.heap.size, 3, none⟩) (Nat.le_refl _) _).setCell (p := ⟨w.heap.size, 4, none⟩) (Nat.le_refl _) _).setCell (p := ⟨w.heap.size, 5, none⟩) (Nat.le_refl _) _).setCell (p := ⟨w.heap.size, 6, none⟩) (Nat.le_refl _) _⟩
theorem cls_take (l : List Nat) (k c : Nat) (h : l[k]? = some c) : (l.take (k + 1)).map clsI = (l.take k).map clsI ++ [clsI c] := by rw [take_snoc' l k c h, List.map_append]; rfl
def EachByteIs (b0 : Nat) (w0 : World) (L : List PI) (e : Ending) (w' : World) : Prop := ∃ u, e = .returned u ∧ w'.ownsRow b0 64 7 u L.length (itemsC L) ∧ Below b0 w0 w'
set_option maxHeartbeats 4000000 in
set_option maxRecDepth 100000 in
theorem eachByte_any (w0 : World) (u v : Value) (pre : List PI) (l : List Nat) (w : World) (hv : RowAt w0 v (u8s l)) (hl : l.length ≤ 1000000) (hpl : pre.length ≤ 1000000) (hc : ∀ c, c ∈ l → c < 256) (hb : Below w0.heap.size w0 w) (ho : w.ownsRow w0.heap.size 64 7 u pre.length (itemsC pre)) :
    Calls Try.prog 46 #[u, v, .func (.func 45) #[] #[]] w (EachByteIs w0.heap.size w0 (pre ++ l.map clsI)) := by
  obtain ⟨ua, uc, rfl⟩ := own_slice' ho
  obtain ⟨va, vc, rfl, hva⟩ := hv
  have hul : (u8s l).length = l.length := by unfold u8s; rw [List.length_map]
  rw [hul]
  obtain ⟨ii, hii, hz0, hz1, hz2⟩ := info_parts infoBItem
  have HVA := Lib.hid hva
  have HC := Lib.hid hc
  have HO := Lib.hid ho
  have HB := Lib.hid hb
  clear hva hc hb ho hul
  go_enter Try.func46, Try.ntmps46
  go_wp2
  go_loopw [11, 0] (fun c u wr => ∃ k : Nat, k ≤ l.length ∧ c = .int .i64 k ∧ wr.ownsRow w0.heap.size 64 7 u (pre ++ (l.take k).map clsI).length (itemsC (pre ++ (l.take k).map clsI)) ∧ Below w0.heap.size w0 wr) (fun c _ _ => l.length - (intOf c).toNat)
  case atStart => exact ⟨0, Nat.zero_le _, rfl, by simpa using HO.out, HB.out⟩
  case round =>
    obtain ⟨k, hk, rfl, ho, hb⟩ := hrel
    by_cases hlt : k < l.length
    · obtain ⟨c, hx⟩ : ∃ c, l[k]? = some c := ⟨_, List.getElem?_eq_getElem hlt⟩
      obtain ⟨b, off, rfl, d0⟩ : ∃ b off, va = some ⟨b, off, none⟩ ∧ w0.cell? ⟨b, off + k, none⟩ = some (.int .u8 (c : Int)) := by
        rcases HVA.out with h | ⟨b, off, e, h⟩
        · unfold u8s at h; rw [List.map_eq_nil_iff] at h; rw [h] at hx; simp at hx
        · exact ⟨b, off, e, h k _ (by unfold u8s; rw [List.getElem?_map, hx]; rfl)⟩
      have c0 : wr.cell? ⟨b, off + k, none⟩ = some (.int .u8 (c : Int)) := by rw [(bcell hb).1 _ _ (lt_of_cell d0)]; exact d0
      obtain ⟨L, hL⟩ : ∃ L, pre ++ (l.take k).map clsI = L := ⟨_, rfl⟩
      have hLl : L.length ≤ 2000000 := by rw [← hL, List.length_append, List.length_map, List.length_take]; omega
      have hL2 : pre ++ (l.take (k + 1)).map clsI = L ++ [clsI c] := by rw [cls_take l k c hx, ← List.append_assoc, hL]
      rw [hL] at ho
      obtain ⟨ta, tc, rfl⟩ := own_slice' ho
      have hC := class_any c (HC.out c (List.mem_of_getElem? hx)) wr
      have k1 : (k : Int) < (l.length : Int) := by omega
      have HL2 := Lib.hid hL2
      have HO := Lib.hid ho
      have HB := Lib.hid hb
      have hbs := hb.size
      unfold itemV at hC
      obtain ⟨x, hxx⟩ : ∃ x, clsI c = x := ⟨_, rfl⟩
      rw [hxx] at hC
      have HX := Lib.hid hxx
      have HCC := Lib.hid hC
      clear hC hxx hL2 hL ho hb hx d0
      go_wp2_with (first
        | (go_at_call 45; (with_reducible refine HCC.out.mono ?_); rintro e w2 ⟨rfl, hb2⟩; have HO2 := Lib.hid (ownsRow_grown HO.out hb2); have HB2 := Lib.hid (HB.out.trans (hb2.mono hbs)); have hbs2 := hb2.size; clear hb2)
        | (at_builtin; refine wpList_append_own _ rfl _ _ 60 rfl w0.heap.size 64 ii _ 7 56 Try.underlying60 hii hz0 hz1 hz2 rfl (by decide) _ L.length _ rfl (ownsRow_grown HO2.out (one_new w2 _)) ⟨w2.heap.size, 0, none⟩ 1 1 (itemC x) rfl rfl (cell_row_one w2 _ _) (by simp [itemC, Value.oneCell']) (by unfold maxLen; omega) (by omega) (by simp; omega) ?_; intro v5 w5 hown' hgrow _; have HO5 := Lib.hid hown'; have HB5 := Lib.hid ((HB2.out.trans ((one_new w2 _).mono (Nat.le_trans hbs hbs2))).grown hgrow (Nat.le_trans (Nat.le_trans hbs hbs2) (one_new w2 _).size) (fun g e => (HO2.out.lt g e).1)); clear hown' hgrow))
      go_roundw
      case rel => exact ⟨k + 1, by omega, by go_num, by rw [HL2.out, itemsC_append, List.length_append, HX.out]; simpa [itemsC] using HO5.out, HB5.out⟩
      case measure => simp [intOf]; omega
    · obtain rfl : k = l.length := by omega
      have k1 : ¬ (l.length : Int) < (l.length : Int) := by omega
      rw [List.take_length] at ho
      have HO := Lib.hid ho
      have HB := Lib.hid hb
      clear ho hb
      go_wp2
      go_ret
      exact ⟨_, rfl, HO.out, HB.out⟩
def LitIs (l : List Nat) (w : World) (e : Ending) (w' : World) : Prop := ∃ u, e = .returned u ∧ w'.ownsRow w.heap.size 64 7 u (litItems l).length (itemsC (litItems l)) ∧ Below w.heap.size w w'
set_option maxHeartbeats 4000000 in
set_option maxRecDepth 100000 in
theorem literal_any (v : Value) (l : List Nat) (w : World) (hv : RowAt w v (u8s l)) (hl : l.length ≤ 1000000) (hc : ∀ c, c ∈ l → c < 256) : Calls Try.prog 26 #[v] w (LitIs l w) := by
  obtain ⟨va, vc, rfl, -⟩ := id hv
  have hul : (u8s l).length = l.length := by unfold u8s; rw [List.length_map]
  rw [hul] at hv ⊢
  have HC := Lib.hid hc
  have HV := Lib.hid hv
  clear hv hc
  rcases hn : l.length with _ | _ | m
  · have hl0 := List.length_eq_zero_iff.1 hn
    subst hl0
    have ho : (w.alloc (.cells #[.int .i64 0, .int .i64 0, .int .i64 0, .int .u64 0, .int .u64 0, .int .u64 0, .int .u64 0] 64)).ownsRow w.heap.size 64 7 (.slice (some ⟨w.heap.size, 0, none⟩) 1 1) 1 (itemC ⟨0, 0, 0, 0, 0, 0, 0⟩) := Bl.own (by simpa [itemC] using Bl.new w 64 #[.int .i64 0, .int .i64 0, .int .i64 0, .int .u64 0, .int .u64 0, .int .u64 0, .int .u64 0]) (Nat.le_refl _) rfl (by decide)
    have HO := Lib.hid ho
    clear ho
    go_enter Try.func26, Try.ntmps26
    go_wp2
    go_ret
    exact ⟨_, rfl, by simpa [litItems, itemsC] using HO.out, one_new _ _⟩
  · obtain ⟨c, hlc⟩ := List.length_eq_one_iff.1 (show l.length = 1 by omega)
    subst hlc
    obtain ⟨b, off, rfl, d0⟩ : ∃ b off, va = some ⟨b, off, none⟩ ∧ w.cell? ⟨b, off, none⟩ = some (.int .u8 (c : Int)) := by
      obtain ⟨a', c', he, h⟩ := HV.out
      injection he with h1 h2 h3
      subst h1
      rcases h with h | ⟨b, off, e, h⟩
      · simp [u8s] at h
      · exact ⟨b, off, e, by simpa using h 0 _ rfl⟩
    have hC := class_any c (HC.out c (by simp)) w
    obtain ⟨x, hx⟩ : ∃ x, clsI c = x := ⟨_, rfl⟩
    rw [hx] at hC
    have HX := Lib.hid hx
    have HCC := Lib.hid hC
    unfold itemV at HCC
    clear hC hx hn
    go_enter Try.func26, Try.ntmps26
    go_wp2_with (go_at_call 45; (with_reducible refine HCC.out.mono ?_); rintro e w2 ⟨rfl, hb2⟩; have HB2 := Lib.hid hb2; clear hb2)
    go_ret
    exact ⟨_, rfl, by
      have := Bl.own (n := 1) (size := 7) (base := w.heap.size) (t := 64) (cs := itemC x) (Bl.new w2 64 (itemC x).toArray) HB2.out.size rfl (by decide)
      simpa [litItems, itemsC, HX.out, itemC] using this, HB2.out.trans ((one_new _ _).mono HB2.out.size)⟩
  · have hL : litItems l = [seqI l.length] ++ l.map clsI := by unfold litItems; rw [if_neg (by omega), if_neg (by omega)]; rfl
    have hb := one_new w (.cells (itemC (seqI l.length)).toArray 64)
    have ho : (w.alloc (.cells (itemC (seqI l.length)).toArray 64)).ownsRow w.heap.size 64 7 (.slice (some ⟨w.heap.size, 0, none⟩) [seqI l.length].length 1) [seqI l.length].length (itemsC [seqI l.length]) := by
      have := Bl.own (n := 1) (size := 7) (base := w.heap.size) (t := 64) (cs := itemC (seqI l.length)) (Bl.new w 64 (itemC (seqI l.length)).toArray) (Nat.le_refl _) rfl (by decide)
      simpa [itemsC] using this
    have hC := eachByte_any w _ (.slice va l.length vc) [seqI l.length] l _ HV.out hl (by simp) HC.out hb ho
    rw [← hL] at hC
    unfold EachByteIs at hC
    unfold LitIs
    generalize litItems l = L at hC ⊢
    simp only [List.length_singleton, itemC, seqI] at hC
    have n0 : ¬ (l.length : Int) = 0 := by omega
    have n1 : ¬ (l.length : Int) = 1 := by omega
    have HCC := Lib.hid hC
    rw [← hn]
    clear hC hb ho hL hn
    go_enter Try.func26, Try.ntmps26
    go_wp2_with (go_at_call 46; (with_reducible refine HCC.out.mono ?_); rintro e w2 ⟨u, rfl, ho2, hb2⟩; have HO2 := Lib.hid ho2; have HB2 := Lib.hid hb2; clear ho2 hb2)
    go_ret
    exact ⟨_, rfl, HO2.out, HB2.out⟩
end Go.Proofs.Ytnebdnonkefloaa
