/- flow.choice. -/
import Derived.Deep.Cut
import Derived.Test.YtocklhehfdilmaaPkFlowSeq
namespace Go.Proofs.Ytocklhehfdilmaa
open Go.RowKit
set_option maxHeartbeats 8000000 in
theorem fcho_any (kv v : Value) (kids : List Int) (l : List Fc) (w : World) (hK : IntsAt w kv kids) (hl : kids.length ≤ maxLen) (hF : FactsAt w v l) :
    Calls Try.prog 36 #[kv, v] w fun e w' => e = .returned (factV (choF (kids.map (atF l)))) ∧ Below w.heap.size w w' := by
  unfold maxLen at hl
  obtain ⟨ka, kc, rfl, hka⟩ := hK
  have HA := Lib.hid (fun (i : Int) (W : World) (hb : Below w.heap.size w W) => fat_any v l i W (hF.kept hb (Nat.le_refl _)))
  clear hF
  go_enter Try.func36, Try.ntmps36
  go_wp2
  go_loopw [11] (fun c wr => ∃ (k : Nat) (sn se : Bool), k ≤ kids.length ∧ c = .int .i64 (k : Int) ∧ SqAt w wr ⟨sn, se, false⟩ ∧ ((kids.drop k).map (atF l)).foldl choS ⟨sn, se, true⟩ = choF (kids.map (atF l))) (fun c _ => kids.length - (intOf c).toNat)
  case atStart => exact ⟨0, false, false, Nat.zero_le _, rfl, ⟨Bl.past (Bl.new w _ _), Bl.new' (by simp), two_new _ _ _⟩, rfl⟩
  case round =>
    obtain ⟨k, sn, se, hk, rfl, hq, hs⟩ := hrel
    by_cases hlt : k < kids.length
    · have k1 : (k : Int) < (kids.length : Int) := by omega
      obtain ⟨x, hx⟩ : ∃ x, kids[k]? = some x := ⟨_, List.getElem?_eq_getElem hlt⟩
      rcases hka with h0 | ⟨kb, ko, rfl, hca⟩
      · rw [h0] at hlt; exact absurd hlt (Nat.not_lt_zero _)
      have cx := hca k x hx
      have lx := lt_of_cell cx
      have cx' : wr.cell? ⟨kb, ko + k, none⟩ = some (.int .i64 x) := by rw [(bcell hq.2.2).1 _ _ lx]; exact cx
      rw [drop_cons hx] at hs
      have HA2 := Lib.hid (HA.out x wr hq.2.2)
      generalize hf : atF l x = f at *
      have hs' : (f :: (kids.drop (k + 1)).map (atF l)).foldl choS ⟨sn, se, true⟩ = choF (kids.map (atF l)) := by rw [← hf]; exact hs
      have HQ := Lib.hid hq
      clear hca hx hs hq cx hf
      obtain ⟨vn, hvn⟩ : ∃ vn, vn = (sn || f.nul) := ⟨_, rfl⟩
      obtain ⟨ve, hve⟩ : ∃ ve, ve = (se || f.eat) := ⟨_, rfl⟩
      have hne : w.heap.size ≠ w.heap.size + 1 := Nat.ne_of_lt (Nat.lt_succ_self _)
      have HVN := Lib.hid hvn
      have HVE := Lib.hid hve
      have HNE := Lib.hid hne
      have HS := Lib.hid hs'
      unfold factV at HA2
      clear hs' hvn hve hne
      cases sn <;> cases se <;>
      · go_upto_region 8 with (go_at_call 28; (with_reducible refine HA2.out.mono ?_); rintro e w5 ⟨rfl, hb⟩; have b0 := HQ.out.1.below hb; have b1 := HQ.out.2.1.below hb; have HB := Lib.hid (bl_on HQ.out.2.2 hb); have a0 := b1.c0; have a1 := b1.c1; have a2 := b1.c2; have af := b1.free; have l1 := b1.lt; have l0 := b0.lt; have B0 := Lib.hid b0; have B1 := Lib.hid b1; clear hb b0 b1)
        generalize hW : World.alloc _ _ = W
        have d0 : Bl W w.heap.size 36 #[.bool false, .bool false, .bool false] := by rw [← hW]; exact Bl.past ((B0.out.off HNE.out).off HNE.out)
        have d1 : Bl W (w.heap.size + 1) 36 #[.bool vn, .bool ve, .bool false] := by rw [← hW, HVN.out, HVE.out]; exact Bl.past ((B1.out.p0 _).p1 _)
        have d8 : Bl W w5.heap.size 36 #[.bool f.nul, .bool f.eat, .bool f.fai] := by rw [← hW]; exact Bl.new' (by simp)
        have dB : Below w.heap.size w W := by rw [← hW]; exact bl_new (bl_put (bl_put HB.out (Nat.le_succ _)) (Nat.le_succ _))
        clear hW
        have q2 := d8.c2
        have r0 := d1.c0
        have r1 := d1.c1
        have r2 := d1.c2
        have rf := d1.free
        have e0 := d0.c0
        have e1 := d0.c1
        have e2 := d0.c2
        have ef := d0.free
        clear a0 a1 a2 af l1 l0 B0 B1 HB
        have D0 := Lib.hid d0
        have D1 := Lib.hid d1
        have DB := Lib.hid dB
        clear d0 d1 d8 dB
        cases hok : f.fai with
        | false =>
          have hs2 := HS.out
          rw [cho_stop hok, ← HVN.out, ← HVE.out] at hs2
          rw [hok] at q2
          have HE := Lib.hid hs2
          clear hs2 hok
          go_wp2
          rw [← HE.out]
          have d := ((D0.out.p0 (.bool vn)).p1 (.bool ve)).p2 (.bool false)
          have k0 := d.c0
          have k1 := d.c1
          have k2 := d.c2
          exact bodyPost_ret (v := factV ⟨vn, ve, false⟩) (by simp [results, Try.results36, go_sem, factV, k0, k1, k2]) rfl ⟨rfl, below_p3 DB.out (Nat.le_refl _) _ _ _⟩
        | true =>
          have hs2 := HS.out
          rw [cho_go hok, ← HVN.out, ← HVE.out] at hs2
          rw [hok] at q2
          have HE := Lib.hid hs2
          clear hs2 hok
          go_wp2
          go_roundw
          case rel => exact ⟨k + 1, vn, ve, by omega, by go_num, ⟨D0.out, D1.out, DB.out⟩, HE.out⟩
          case measure => simp [intOf]; omega
    · obtain rfl : k = kids.length := by omega
      have k1 : ¬ (kids.length : Int) < (kids.length : Int) := by omega
      rw [List.drop_length] at hs
      have HE := Lib.hid (show (⟨sn, se, true⟩ : Fc) = choF (kids.map (atF l)) from hs)
      have B0 := Lib.hid hq.1
      have HB := Lib.hid hq.2.2
      have a0 := hq.2.1.c0
      have a1 := hq.2.1.c1
      have a2 := hq.2.1.c2
      have af := hq.2.1.free
      have c0 := hq.1.c0
      have c1 := hq.1.c1
      have c2 := hq.1.c2
      have cf := hq.1.free
      have hne : w.heap.size ≠ w.heap.size + 1 := Nat.ne_of_lt (Nat.lt_succ_self _)
      have HNE := Lib.hid hne
      have l1 := hq.2.1.lt
      have l0 := hq.1.lt
      clear hq hs hne
      go_wp2
      rw [← HE.out]
      have d := (((B0.out.off (c := w.heap.size + 1) (o := 2) (v := .bool true) HNE.out).p0 (.bool sn)).p1 (.bool se)).p2 (.bool true)
      have r0 := d.c0
      have r1 := d.c1
      have r2 := d.c2
      exact bodyPost_ret (v := factV ⟨sn, se, true⟩) (by simp [results, Try.results36, go_sem, factV, r0, r1, r2]) rfl ⟨rfl, below_p3 (bl_put HB.out (Nat.le_succ _)) (Nat.le_refl _) _ _ _⟩
end Go.Proofs.Ytocklhehfdilmaa
