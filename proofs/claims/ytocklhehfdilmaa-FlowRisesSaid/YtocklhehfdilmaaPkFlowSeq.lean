/- flow.sequence and flow.choice. -/
import Derived.Test.YtocklhehfdilmaaPkFlowMem
namespace Go.Proofs.Ytocklhehfdilmaa
open Go.RowKit
theorem drop_cons {α : Type} {l : List α} {k : Nat} {x : α} (h : l[k]? = some x) : l.drop k = x :: l.drop (k + 1) := by
  obtain ⟨h1, h2⟩ := List.getElem?_eq_some_iff.1 h
  rw [← h2]; exact List.drop_eq_getElem_cons h1
/-- The loops' own state: the result's cells, the facts so far. -/
def SqAt (w wr : World) (s : Fc) : Prop := Bl wr w.heap.size 36 #[.bool false, .bool false, .bool false] ∧ Bl wr (w.heap.size + 1) 36 #[.bool s.nul, .bool s.eat, .bool s.fai] ∧ Below w.heap.size w wr
set_option maxHeartbeats 8000000 in
theorem fseq_any (kv v : Value) (kids : List Int) (l : List Fc) (w : World) (hK : IntsAt w kv kids) (hl : kids.length ≤ maxLen) (hF : FactsAt w v l) :
    Calls Try.prog 35 #[kv, v] w fun e w' => e = .returned (factV (seqF (kids.map (atF l)))) ∧ Below w.heap.size w w' := by
  unfold maxLen at hl
  obtain ⟨ka, kc, rfl, hka⟩ := hK
  have HA := Lib.hid (fun (i : Int) (W : World) (hb : Below w.heap.size w W) => fat_any v l i W (hF.kept hb (Nat.le_refl _)))
  clear hF
  go_enter Try.func35, Try.ntmps35
  go_wp2
  go_loopw [12] (fun c wr => ∃ (k : Nat) (s : Fc), k ≤ kids.length ∧ c = .int .i64 (k : Int) ∧ SqAt w wr s ∧ seqE (((kids.drop k).map (atF l)).foldl seqS (s, true)) = seqF (kids.map (atF l))) (fun c _ => kids.length - (intOf c).toNat)
  case atStart => exact ⟨0, ⟨true, false, false⟩, Nat.zero_le _, rfl, ⟨Bl.past (Bl.new w _ _), Bl.new' (by simp), two_new _ _ _⟩, rfl⟩
  case round =>
    obtain ⟨k, s, hk, rfl, hq, hs⟩ := hrel
    by_cases hlt : k < kids.length
    · have k1 : (k : Int) < (kids.length : Int) := by omega
      obtain ⟨x, hx⟩ : ∃ x, kids[k]? = some x := ⟨_, List.getElem?_eq_getElem hlt⟩
      rcases hka with h0 | ⟨kb, ko, rfl, hca⟩
      · rw [h0] at hlt; exact absurd hlt (Nat.not_lt_zero _)
      have cx := hca k x hx
      have lx := lt_of_cell cx
      have cx' : wr.cell? ⟨kb, ko + k, none⟩ = some (.int .i64 x) := by rw [(bcell hq.2.2).1 _ _ lx]; exact cx
      rw [drop_cons hx] at hs
      have HA2 := Lib.hid (HA.out x wr hq.2.2)
      generalize hf : atF l x = f at *
      have hs' : seqE ((f :: (kids.drop (k + 1)).map (atF l)).foldl seqS (s, true)) = seqF (kids.map (atF l)) := by rw [← hf]; exact hs
      have HQ := Lib.hid hq
      clear hca hx hs hq cx hf
      cases hok : f.ok with
      | false =>
        rw [seq_stop hok] at hs'
        have HS := Lib.hid (fun W => fsucc_any f W)
        rw [hok] at HS
        have HE := Lib.hid hs'
        clear hs' hok
        obtain ⟨sn, se, sf⟩ := s
        unfold factV at HA2 HS
        cases sf with
        | false =>
          go_wp2_with (first
            | (go_at_call 28; (with_reducible refine HA2.out.mono ?_); rintro e w5 ⟨rfl, hb⟩; have b0 := HQ.out.1.below hb; have b1 := HQ.out.2.1.below hb; have HB := Lib.hid (HQ.out.2.2.trans (hb.mono HQ.out.2.2.size)); have a0 := b1.c0; have a1 := b1.c1; have a2 := b1.c2; have af := b1.free; have l1 := b1.lt; have l0 := b0.lt; have B0 := Lib.hid b0; have B1 := Lib.hid b1; clear hb b0 b1)
            | (go_at_call 45; (with_reducible refine (HS.out _).mono ?_); rintro e w6 ⟨rfl, hb⟩; have d0 := (Bl.past (B0.out.off (Nat.ne_of_lt (Nat.lt_succ_self _)))).below hb; have d1 := (Bl.past (B1.out.p2 _)).below hb; have HB6 := Lib.hid (bl_on (bl_new (bl_put HB.out (Nat.le_succ _))) hb); have e2 := d1.c2; have e0 := d0.c0; have e1 := d0.c1; have e3 := d0.c2; have ef := d0.free; have g1 := d1.lt; have g0 := d0.lt; have D0 := Lib.hid d0; clear hb d0 d1))
          rw [← HE.out]
          have d := ((D0.out.p0 (.bool false)).p1 (.bool false)).p2 (.bool f.fai)
          have r0 := d.c0
          have r1 := d.c1
          have r2 := d.c2
          exact bodyPost_ret (v := factV ⟨false, false, f.fai⟩) (by simp [results, Try.results35, go_sem, factV, r0, r1, r2]) rfl ⟨rfl, below_p3 HB6.out (Nat.le_refl _) _ _ _⟩
        | true =>
          go_wp2_with (first
            | (go_at_call 28; (with_reducible refine HA2.out.mono ?_); rintro e w5 ⟨rfl, hb⟩; have b0 := HQ.out.1.below hb; have b1 := HQ.out.2.1.below hb; have HB := Lib.hid (HQ.out.2.2.trans (hb.mono HQ.out.2.2.size)); have a0 := b1.c0; have a1 := b1.c1; have a2 := b1.c2; have af := b1.free; have l1 := b1.lt; have l0 := b0.lt; have B0 := Lib.hid b0; have B1 := Lib.hid b1; clear hb b0 b1)
            | (go_at_call 45; (with_reducible refine (HS.out _).mono ?_); rintro e w6 ⟨rfl, hb⟩; have d0 := (Bl.past (B0.out.off (Nat.ne_of_lt (Nat.lt_succ_self _)))).below hb; have d1 := (Bl.past (B1.out.p2 _)).below hb; have HB6 := Lib.hid (bl_on (bl_new (bl_put HB.out (Nat.le_succ _))) hb); have e2 := d1.c2; have e0 := d0.c0; have e1 := d0.c1; have e3 := d0.c2; have ef := d0.free; have g1 := d1.lt; have g0 := d0.lt; have D0 := Lib.hid d0; clear hb d0 d1))
          rw [← HE.out]
          have d := ((D0.out.p0 (.bool false)).p1 (.bool false)).p2 (.bool true)
          have r0 := d.c0
          have r1 := d.c1
          have r2 := d.c2
          exact bodyPost_ret (v := factV ⟨false, false, true⟩) (by simp [results, Try.results35, go_sem, factV, r0, r1, r2]) rfl ⟨rfl, below_p3 HB6.out (Nat.le_refl _) _ _ _⟩
      | true =>
        rw [seq_go hok] at hs'
        have HS := Lib.hid (fun W => fsucc_any f W)
        rw [hok] at HS
        have HE := Lib.hid hs'
        clear hs' hok
        obtain ⟨sn, se, sf⟩ := s
        unfold factV at HA2 HS
        cases sf <;> cases sn <;> cases se <;>
        · go_wp2_with (first
            | (go_at_call 28; (with_reducible refine HA2.out.mono ?_); rintro e w5 ⟨rfl, hb⟩; have b0 := HQ.out.1.below hb; have b1 := HQ.out.2.1.below hb; have HB := Lib.hid (HQ.out.2.2.trans (hb.mono HQ.out.2.2.size)); have a0 := b1.c0; have a1 := b1.c1; have a2 := b1.c2; have af := b1.free; have l1 := b1.lt; have l0 := b0.lt; have B0 := Lib.hid b0; have B1 := Lib.hid b1; clear hb b0 b1)
            | (go_at_call 45; (with_reducible refine (HS.out _).mono ?_); rintro e w6 ⟨rfl, hb⟩; have d0 := (Bl.past (B0.out.off (Nat.ne_of_lt (Nat.lt_succ_self _)))).below hb; have d1 := (Bl.past (B1.out.p2 _)).below hb; have HB6 := Lib.hid (bl_on (bl_new (bl_put HB.out (Nat.le_succ _))) hb); have e2 := d1.c2; have e0 := d0.c0; have e1 := d0.c1; have e3 := d0.c2; have ef := d0.free; have g1 := d1.lt; have g0 := d0.lt; have b8 := (Bl.new' (B := w5.heap.size) (cs := #[.bool f.nul, .bool f.eat, .bool f.fai]) (t := 36) (by simp)).below hb; have n0 := b8.c0; have n1 := b8.c1; have h0 := d1.c0; have h1 := d1.c1; have hf' := d1.free; have l8 := b8.lt; have D0 := Lib.hid d0; have D1 := Lib.hid d1; clear hb d0 d1 b8 e0 e1 e2 e3 ef))
          go_roundw
          case rel => exact ⟨k + 1, _, by omega, by go_num, ⟨(D0.out.off (Nat.ne_of_lt (Nat.lt_succ_self _))).off (Nat.ne_of_lt (Nat.lt_succ_self _)), (D1.out.p0 _).p1 _, bl_put (bl_put HB6.out (Nat.le_succ _)) (Nat.le_succ _)⟩, HE.out⟩
          case measure => simp [intOf]; omega
    · obtain rfl : k = kids.length := by omega
      have k1 : ¬ (kids.length : Int) < (kids.length : Int) := by omega
      rw [List.drop_length] at hs
      have HE := Lib.hid (show s = seqF (kids.map (atF l)) by rw [← hs]; exact (seq_end s).symm)
      have B0 := Lib.hid hq.1
      have HB := Lib.hid hq.2.2
      have a0 := hq.2.1.c0
      have a1 := hq.2.1.c1
      have a2 := hq.2.1.c2
      have c0 := hq.1.c0
      have c1 := hq.1.c1
      have c2 := hq.1.c2
      have cf := hq.1.free
      clear hq hs
      go_wp2
      rw [← HE.out]
      have d := ((B0.out.p0 (.bool s.nul)).p1 (.bool s.eat)).p2 (.bool s.fai)
      have r0 := d.c0
      have r1 := d.c1
      have r2 := d.c2
      exact bodyPost_ret (v := factV s) (by simp [results, Try.results35, go_sem, factV, r0, r1, r2]) rfl ⟨rfl, below_p3 HB.out (Nat.le_refl _) _ _ _⟩
end Go.Proofs.Ytocklhehfdilmaa
