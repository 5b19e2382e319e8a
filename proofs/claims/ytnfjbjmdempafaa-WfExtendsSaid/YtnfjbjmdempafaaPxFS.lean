/- Facts in memory; flow.at, flow.root, Facts.succeeds; the reference's ok. flow.sequence and flow.choice. flow.choice. flow.single: a prefix or suffix. flow.yield -/
import Derived.Deep.RegionWith
import Derived.Deep.Cut
import Derived.Deep.RegionHeld3
import Derived.Test.YtnfjbjmdempafaaPxFM
import Derived.Test.YtnfjbjmdempafaaPxB
import Derived.Test.YtnfjbjmdempafaaPxK
import Derived.Test.YtnfjbjmdempafaaPxGramMade
namespace Go.Proofs.Ytnfjbjmdempafaa
open Go.RowKit
def factV (f : Fc) : Value := .agg #[.bool f.nul, .bool f.eat, .bool f.fai]
/-- The cells of facts at an address. -/
def FactAt (w : World) (b o : Nat) (f : Fc) : Prop := w.cell? ⟨b, o, none⟩ = some (.bool f.nul) ∧ w.cell? ⟨b, o + 1, none⟩ = some (.bool f.eat) ∧ w.cell? ⟨b, o + 2, none⟩ = some (.bool f.fai)
/-- v is a slice that holds the facts l. -/
def FactsAt (w : World) (v : Value) (l : List Fc) : Prop := l.length ≤ maxLen ∧ ∃ a cap, v = .slice a l.length cap ∧ (l = [] ∨ ∃ b off, a = some ⟨b, off, none⟩ ∧ ∀ i f, l[i]? = some f → FactAt w b (off + i * 3) f)
theorem FactAt.kept {n : Nat} {w w' : World} {b o : Nat} {f : Fc} (h : FactAt w b o f) (hb : Below n w w') (hn : w.heap.size ≤ n) : FactAt w' b o f := by
  obtain ⟨h0, h1, h2⟩ := h
  have hl := lt_of_cell h0
  have hc := fun o => (bcell hb).1 b o (by omega)
  exact ⟨by rw [hc]; exact h0, by rw [hc]; exact h1, by rw [hc]; exact h2⟩
theorem FactsAt.kept {n : Nat} {w w' : World} {v : Value} {l : List Fc} (h : FactsAt w v l) (hb : Below n w w') (hn : w.heap.size ≤ n) : FactsAt w' v l := by
  obtain ⟨hl, a, cap, rfl, h⟩ := h
  refine ⟨hl, a, cap, rfl, ?_⟩
  rcases h with h | ⟨b, off, rfl, hc⟩
  · exact .inl h
  · exact .inr ⟨b, off, rfl, fun i f hi => (hc i f hi).kept hb hn⟩
theorem FactsAt.below {w w' : World} {v : Value} {l : List Fc} (h : FactsAt w v l) (hb : Below w.heap.size w w') : FactsAt w' v l := h.kept hb (Nat.le_refl _)
theorem FactsAt.slice {w : World} {v : Value} {l : List Fc} (h : FactsAt w v l) : ∃ a c, v = .slice a l.length c := by obtain ⟨-, a, c, e, -⟩ := h; exact ⟨a, c, e⟩
theorem FactsAt.at {w : World} {a : Option Addr} {n c : Nat} {l : List Fc} {i : Nat} {f : Fc} (h : FactsAt w (.slice a n c) l) (hx : l[i]? = some f) : ∃ b off, a = some ⟨b, off, none⟩ ∧ FactAt w b (off + i * 3) f := by
  obtain ⟨-, a', c', e, h⟩ := h
  injection e with e1 e2 e3
  subst e1
  rcases h with h | ⟨b, off, rfl, hc⟩
  · rw [h] at hx; simp at hx
  · exact ⟨b, off, rfl, hc i f hx⟩
/-- A block of three cells, as the cells of facts. -/
theorem Bl.p0 {w : World} {b : Nat} {t : TypeId} {x y z : Value} (h : Bl w b t #[x, y, z]) (u : Value) : Bl (w.setCell ⟨b, 0, none⟩ u) b t #[u, y, z] := h.set' u
theorem Bl.p1 {w : World} {b : Nat} {t : TypeId} {x y z : Value} (h : Bl w b t #[x, y, z]) (u : Value) : Bl (w.setCell ⟨b, 1, none⟩ u) b t #[x, u, z] := h.set' u
theorem Bl.p2 {w : World} {b : Nat} {t : TypeId} {x y z : Value} (h : Bl w b t #[x, y, z]) (u : Value) : Bl (w.setCell ⟨b, 2, none⟩ u) b t #[x, y, u] := h.set' u
theorem Bl.c0 {w : World} {b : Nat} {t : TypeId} {x y z : Value} (h : Bl w b t #[x, y, z]) : w.cell? ⟨b, 0, none⟩ = some x := h.cell (o := 0) rfl
theorem Bl.c1 {w : World} {b : Nat} {t : TypeId} {x y z : Value} (h : Bl w b t #[x, y, z]) : w.cell? ⟨b, 1, none⟩ = some y := h.cell (o := 1) rfl
theorem Bl.c2 {w : World} {b : Nat} {t : TypeId} {x y z : Value} (h : Bl w b t #[x, y, z]) : w.cell? ⟨b, 2, none⟩ = some z := h.cell (o := 2) rfl
/-- Old memory through stores into new blocks, new blocks and calls. -/
theorem bl_put {b o : Nat} {v : Value} {w W : World} (h : Below w.heap.size w W) (hb : w.heap.size ≤ b) : Below w.heap.size w (W.setCell ⟨b, o, none⟩ v) := h.setCell (p := ⟨b, o, none⟩) hb v
theorem bl_new {o : Obj} {w W : World} (h : Below w.heap.size w W) : Below w.heap.size w (W.alloc o) := h.alloc h.size o
theorem bl_on {w W W' : World} (h : Below w.heap.size w W) (hb : Below W.heap.size W W') : Below w.heap.size w W' := h.trans (hb.mono h.size)
theorem Bl.off {b c o : Nat} {t : TypeId} {cs : Array Value} {v : Value} {w : World} (h : Bl w b t cs) (hc : b ≠ c) : Bl (w.setCell ⟨c, o, none⟩ v) b t cs := h.other hc v
/-- Three stores into a new block. -/
theorem below_p3 {n b : Nat} {w w' : World} (h : Below n w w') (hb : n ≤ b) (x y z : Value) : Below n w (((w'.setCell ⟨b, 0, none⟩ x).setCell ⟨b, 1, none⟩ y).setCell ⟨b, 2, none⟩ z) :=
  ((h.setCell (p := ⟨b, 0, none⟩) hb x).setCell (p := ⟨b, 1, none⟩) hb y).setCell (p := ⟨b, 2, none⟩) hb z
theorem fsucc_any (f : Fc) (w : World) : Calls Try.prog 74 #[factV f] w fun e w' => e = .returned (.bool f.ok) ∧ Below w.heap.size w w' := by
  obtain ⟨a, b, c⟩ := f
  unfold factV Fc.ok
  cases a <;> cases b <;>
  · go_enter Try.func74, Try.ntmps74
    go_wp2
    go_ret
    exact ⟨rfl, one_new _ _⟩
theorem rok_any (f : Fc) (w : World) : Calls Try.prog 57 #[factV f] w fun e w' => e = .returned (.bool f.ok) ∧ Below w.heap.size w w' := by
  obtain ⟨a, b, c⟩ := f
  unfold factV Fc.ok
  cases a <;> cases b <;>
  · go_enter Try.func57, Try.ntmps57
    go_wp2
    go_ret
    exact ⟨rfl, one_new _ _⟩
theorem fat_any (v : Value) (l : List Fc) (i : Int) (w : World) (h : FactsAt w v l) :
    Calls Try.prog 62 #[v, .int .i64 i] w fun e w' => e = .returned (factV (atF l i)) ∧ Below w.heap.size w w' := by
  obtain ⟨a, c, rfl⟩ := h.slice
  by_cases h0 : i < 0
  · rw [atF_neg h0]
    go_enter Try.func62, Try.ntmps62
    go_wp2
    exact bodyPost_ret (v := factV fc0) (by simp [results, Try.results62, go_sem, factV, fc0]) rfl ⟨rfl, one_new _ _⟩
  · by_cases h1 : (l.length : Int) ≤ i
    · rw [atF_big h1]
      go_enter Try.func62, Try.ntmps62
      go_wp2
      exact bodyPost_ret (v := factV fc0) (by simp [results, Try.results62, go_sem, factV, fc0]) rfl ⟨rfl, one_new _ _⟩
    · obtain ⟨k, rfl⟩ : ∃ k : Nat, i = k := ⟨i.toNat, by omega⟩
      have hk : k < l.length := by omega
      obtain ⟨f, hf⟩ : ∃ f, l[k]? = some f := ⟨_, List.getElem?_eq_getElem hk⟩
      rw [atF_some hf]
      obtain ⟨b, off, rfl, c0, c1, c2⟩ := h.at hf
      have hlt := lt_of_cell c0
      have k1 : (k : Int) < (l.length : Int) := by omega
      clear h hf
      go_enter Try.func62, Try.ntmps62
      go_wp2
      exact bodyPost_ret (v := factV f) (by simp [results, Try.results62, go_sem, factV]) rfl ⟨rfl, one_new _ _⟩
theorem froot_any (rv nv : Value) (rs : List PR) (r : Int) (w : World) (hR : RulesIn w rv rs) :
    Calls Try.prog 59 #[.agg #[rv, nv], .int .i64 r] w fun e w' => e = .returned (.int .i64 (rootF rs r)) ∧ Below w.heap.size w w' := by
  obtain ⟨-, ra, rc, rfl, hra⟩ := id hR
  by_cases h0 : r < 0
  · rw [rootF_neg h0]
    go_enter Try.func59, Try.ntmps59
    go_wp2
    go_ret
    exact ⟨rfl, one_new _ _⟩
  · by_cases h1 : (rs.length : Int) ≤ r
    · rw [rootF_big h1]
      go_enter Try.func59, Try.ntmps59
      go_wp2
      go_ret
      exact ⟨rfl, one_new _ _⟩
    · obtain ⟨k, rfl⟩ : ∃ k : Nat, r = k := ⟨r.toNat, by omega⟩
      have hk : k < rs.length := by omega
      obtain ⟨x, hx⟩ : ∃ x, rs[k]? = some x := ⟨_, List.getElem?_eq_getElem hk⟩
      rw [rootF_at hx]
      rcases hra with h | ⟨rb, ro, rfl, hca⟩
      · rw [h] at hk; exact absurd hk (Nat.not_lt_zero _)
      obtain ⟨r0, r1⟩ := hca k x hx
      have lr := lt_of_cell r0
      have k1 : (k : Int) < (rs.length : Int) := by omega
      clear hR hca hx
      go_enter Try.func59, Try.ntmps59
      go_wp2
      go_ret
      exact ⟨rfl, one_new _ _⟩
end Go.Proofs.Ytnfjbjmdempafaa
namespace Go.Proofs.Ytnfjbjmdempafaa
open Go.RowKit
theorem drop_cons {α : Type} {l : List α} {k : Nat} {x : α} (h : l[k]? = some x) : l.drop k = x :: l.drop (k + 1) := by
  obtain ⟨h1, h2⟩ := List.getElem?_eq_some_iff.1 h
  rw [← h2]; exact List.drop_eq_getElem_cons h1
/-- The loops' own state: the result's cells, the facts so far. -/
def SqAt (w wr : World) (s : Fc) : Prop := Bl wr w.heap.size 85 #[.bool false, .bool false, .bool false] ∧ Bl wr (w.heap.size + 1) 85 #[.bool s.nul, .bool s.eat, .bool s.fai] ∧ Below w.heap.size w wr
set_option maxHeartbeats 8000000 in
theorem fseq_any (kv v : Value) (kids : List Int) (l : List Fc) (w : World) (hK : IntsAt w kv kids) (hl : kids.length ≤ maxLen) (hF : FactsAt w v l) :
    Calls Try.prog 63 #[kv, v] w fun e w' => e = .returned (factV (seqF (kids.map (atF l)))) ∧ Below w.heap.size w w' := by
  unfold maxLen at hl
  obtain ⟨ka, kc, rfl, hka⟩ := hK
  have HA := Lib.hid (fun (i : Int) (W : World) (hb : Below w.heap.size w W) => fat_any v l i W (hF.kept hb (Nat.le_refl _)))
  clear hF
  go_enter Try.func63, Try.ntmps63
  go_wp2
  go_loopw [12] (fun c wr => ∃ (k : Nat) (s : Fc), k ≤ kids.length ∧ c = .int .i64 (k : Int) ∧ SqAt w wr s ∧ seqE (((kids.drop k).map (atF l)).foldl seqS (s, true)) = seqF (kids.map (atF l))) (fun c _ => kids.length - (intOf c).toNat)
  case atStart => exact ⟨0, ⟨true, false, false⟩, Nat.zero_le _, rfl, ⟨Bl.past (Bl.new w _ _), Bl.new' (by simp), two_new _ _ _⟩, rfl⟩
  case round =>
    obtain ⟨k, s, hk, rfl, hq, hs⟩ := hrel
    by_cases hlt : k < kids.length
    · have k1 : (k : Int) < (kids.length : Int) := by omega
      obtain ⟨x, hx⟩ : ∃ x, kids[k]? = some x := ⟨_, List.getElem?_eq_getElem hlt⟩
      rcases hka with h0 | ⟨kb, ko, rfl, hca⟩
      · rw [h0] at hlt; exact absurd hlt (Nat.not_lt_zero _)
      have cx := hca k x hx
      have lx := lt_of_cell cx
      have cx' : wr.cell? ⟨kb, ko + k, none⟩ = some (.int .i64 x) := by rw [(bcell hq.2.2).1 _ _ lx]; exact cx
      rw [drop_cons hx] at hs
      have HA2 := Lib.hid (HA.out x wr hq.2.2)
      generalize hf : atF l x = f at *
      have hs' : seqE ((f :: (kids.drop (k + 1)).map (atF l)).foldl seqS (s, true)) = seqF (kids.map (atF l)) := by rw [← hf]; exact hs
      have HQ := Lib.hid hq
      clear hca hx hs hq cx hf
      cases hok : f.ok with
      | false =>
        rw [seq_stop hok] at hs'
        have HS := Lib.hid (fun W => fsucc_any f W)
        rw [hok] at HS
        have HE := Lib.hid hs'
        clear hs' hok
        obtain ⟨sn, se, sf⟩ := s
        unfold factV at HA2 HS
        cases sf with
        | false =>
          go_wp2_with (first
            | (go_at_call 62; (with_reducible refine HA2.out.mono ?_); rintro e w5 ⟨rfl, hb⟩; have b0 := HQ.out.1.below hb; have b1 := HQ.out.2.1.below hb; have HB := Lib.hid (HQ.out.2.2.trans (hb.mono HQ.out.2.2.size)); have a0 := b1.c0; have a1 := b1.c1; have a2 := b1.c2; have af := b1.free; have l1 := b1.lt; have l0 := b0.lt; have B0 := Lib.hid b0; have B1 := Lib.hid b1; clear hb b0 b1)
            | (go_at_call 74; (with_reducible refine (HS.out _).mono ?_); rintro e w6 ⟨rfl, hb⟩; have d0 := (Bl.past (B0.out.off (Nat.ne_of_lt (Nat.lt_succ_self _)))).below hb; have d1 := (Bl.past (B1.out.p2 _)).below hb; have HB6 := Lib.hid (bl_on (bl_new (bl_put HB.out (Nat.le_succ _))) hb); have e2 := d1.c2; have e0 := d0.c0; have e1 := d0.c1; have e3 := d0.c2; have ef := d0.free; have g1 := d1.lt; have g0 := d0.lt; have D0 := Lib.hid d0; clear hb d0 d1))
          rw [← HE.out]
          have d := ((D0.out.p0 (.bool false)).p1 (.bool false)).p2 (.bool f.fai)
          have r0 := d.c0
          have r1 := d.c1
          have r2 := d.c2
          exact bodyPost_ret (v := factV ⟨false, false, f.fai⟩) (by simp [results, Try.results63, go_sem, factV, r0, r1, r2]) rfl ⟨rfl, below_p3 HB6.out (Nat.le_refl _) _ _ _⟩
        | true =>
          go_wp2_with (first
            | (go_at_call 62; (with_reducible refine HA2.out.mono ?_); rintro e w5 ⟨rfl, hb⟩; have b0 := HQ.out.1.below hb; have b1 := HQ.out.2.1.below hb; have HB := Lib.hid (HQ.out.2.2.trans (hb.mono HQ.out.2.2.size)); have a0 := b1.c0; have a1 := b1.c1; have a2 := b1.c2; have af := b1.free; have l1 := b1.lt; have l0 := b0.lt; have B0 := Lib.hid b0; have B1 := Lib.hid b1; clear hb b0 b1)
            | (go_at_call 74; (with_reducible refine (HS.out _).mono ?_); rintro e w6 ⟨rfl, hb⟩; have d0 := (Bl.past (B0.out.off (Nat.ne_of_lt (Nat.lt_succ_self _)))).below hb; have d1 := (Bl.past (B1.out.p2 _)).below hb; have HB6 := Lib.hid (bl_on (bl_new (bl_put HB.out (Nat.le_succ _))) hb); have e2 := d1.c2; have e0 := d0.c0; have e1 := d0.c1; have e3 := d0.c2; have ef := d0.free; have g1 := d1.lt; have g0 := d0.lt; have D0 := Lib.hid d0; clear hb d0 d1))
          rw [← HE.out]
          have d := ((D0.out.p0 (.bool false)).p1 (.bool false)).p2 (.bool true)
          have r0 := d.c0
          have r1 := d.c1
          have r2 := d.c2
          exact bodyPost_ret (v := factV ⟨false, false, true⟩) (by simp [results, Try.results63, go_sem, factV, r0, r1, r2]) rfl ⟨rfl, below_p3 HB6.out (Nat.le_refl _) _ _ _⟩
      | true =>
        rw [seq_go hok] at hs'
        have HS := Lib.hid (fun W => fsucc_any f W)
        rw [hok] at HS
        have HE := Lib.hid hs'
        clear hs' hok
        obtain ⟨sn, se, sf⟩ := s
        unfold factV at HA2 HS
        cases sf <;> cases sn <;> cases se <;>
        · go_wp2_with (first
            | (go_at_call 62; (with_reducible refine HA2.out.mono ?_); rintro e w5 ⟨rfl, hb⟩; have b0 := HQ.out.1.below hb; have b1 := HQ.out.2.1.below hb; have HB := Lib.hid (HQ.out.2.2.trans (hb.mono HQ.out.2.2.size)); have a0 := b1.c0; have a1 := b1.c1; have a2 := b1.c2; have af := b1.free; have l1 := b1.lt; have l0 := b0.lt; have B0 := Lib.hid b0; have B1 := Lib.hid b1; clear hb b0 b1)
            | (go_at_call 74; (with_reducible refine (HS.out _).mono ?_); rintro e w6 ⟨rfl, hb⟩; have d0 := (Bl.past (B0.out.off (Nat.ne_of_lt (Nat.lt_succ_self _)))).below hb; have d1 := (Bl.past (B1.out.p2 _)).below hb; have HB6 := Lib.hid (bl_on (bl_new (bl_put HB.out (Nat.le_succ _))) hb); have e2 := d1.c2; have e0 := d0.c0; have e1 := d0.c1; have e3 := d0.c2; have ef := d0.free; have g1 := d1.lt; have g0 := d0.lt; have b8 := (Bl.new' (B := w5.heap.size) (cs := #[.bool f.nul, .bool f.eat, .bool f.fai]) (t := 85) (by simp)).below hb; have n0 := b8.c0; have n1 := b8.c1; have h0 := d1.c0; have h1 := d1.c1; have hf' := d1.free; have l8 := b8.lt; have D0 := Lib.hid d0; have D1 := Lib.hid d1; clear hb d0 d1 b8 e0 e1 e2 e3 ef))
          go_roundw
          case rel => exact ⟨k + 1, _, by omega, by go_num, ⟨(D0.out.off (Nat.ne_of_lt (Nat.lt_succ_self _))).off (Nat.ne_of_lt (Nat.lt_succ_self _)), (D1.out.p0 _).p1 _, bl_put (bl_put HB6.out (Nat.le_succ _)) (Nat.le_succ _)⟩, HE.out⟩
          case measure => simp [intOf]; omega
    · obtain rfl : k = kids.length := by omega
      have k1 : ¬ (kids.length : Int) < (kids.length : Int) := by omega
      rw [List.drop_length] at hs
      have HE := Lib.hid (show s = seqF (kids.map (atF l)) by rw [← hs]; exact (seq_end s).symm)
      have B0 := Lib.hid hq.1
      have HB := Lib.hid hq.2.2
      have a0 := hq.2.1.c0
      have a1 := hq.2.1.c1
      have a2 := hq.2.1.c2
      have c0 := hq.1.c0
      have c1 := hq.1.c1
      have c2 := hq.1.c2
      have cf := hq.1.free
      clear hq hs
      go_wp2
      rw [← HE.out]
      have d := ((B0.out.p0 (.bool s.nul)).p1 (.bool s.eat)).p2 (.bool s.fai)
      have r0 := d.c0
      have r1 := d.c1
      have r2 := d.c2
      exact bodyPost_ret (v := factV s) (by simp [results, Try.results63, go_sem, factV, r0, r1, r2]) rfl ⟨rfl, below_p3 HB.out (Nat.le_refl _) _ _ _⟩
end Go.Proofs.Ytnfjbjmdempafaa
namespace Go.Proofs.Ytnfjbjmdempafaa
open Go.RowKit
set_option maxHeartbeats 8000000 in
theorem fcho_any (kv v : Value) (kids : List Int) (l : List Fc) (w : World) (hK : IntsAt w kv kids) (hl : kids.length ≤ maxLen) (hF : FactsAt w v l) :
    Calls Try.prog 64 #[kv, v] w fun e w' => e = .returned (factV (choF (kids.map (atF l)))) ∧ Below w.heap.size w w' := by
  unfold maxLen at hl
  obtain ⟨ka, kc, rfl, hka⟩ := hK
  have HA := Lib.hid (fun (i : Int) (W : World) (hb : Below w.heap.size w W) => fat_any v l i W (hF.kept hb (Nat.le_refl _)))
  clear hF
  go_enter Try.func64, Try.ntmps64
  go_wp2
  go_loopw [11] (fun c wr => ∃ (k : Nat) (sn se : Bool), k ≤ kids.length ∧ c = .int .i64 (k : Int) ∧ SqAt w wr ⟨sn, se, false⟩ ∧ ((kids.drop k).map (atF l)).foldl choS ⟨sn, se, true⟩ = choF (kids.map (atF l))) (fun c _ => kids.length - (intOf c).toNat)
  case atStart => exact ⟨0, false, false, Nat.zero_le _, rfl, ⟨Bl.past (Bl.new w _ _), Bl.new' (by simp), two_new _ _ _⟩, rfl⟩
  case round =>
    obtain ⟨k, sn, se, hk, rfl, hq, hs⟩ := hrel
    by_cases hlt : k < kids.length
    · have k1 : (k : Int) < (kids.length : Int) := by omega
      obtain ⟨x, hx⟩ : ∃ x, kids[k]? = some x := ⟨_, List.getElem?_eq_getElem hlt⟩
      rcases hka with h0 | ⟨kb, ko, rfl, hca⟩
      · rw [h0] at hlt; exact absurd hlt (Nat.not_lt_zero _)
      have cx := hca k x hx
      have lx := lt_of_cell cx
      have cx' : wr.cell? ⟨kb, ko + k, none⟩ = some (.int .i64 x) := by rw [(bcell hq.2.2).1 _ _ lx]; exact cx
      rw [drop_cons hx] at hs
      have HA2 := Lib.hid (HA.out x wr hq.2.2)
      generalize hf : atF l x = f at *
      have hs' : (f :: (kids.drop (k + 1)).map (atF l)).foldl choS ⟨sn, se, true⟩ = choF (kids.map (atF l)) := by rw [← hf]; exact hs
      have HQ := Lib.hid hq
      clear hca hx hs hq cx hf
      obtain ⟨vn, hvn⟩ : ∃ vn, vn = (sn || f.nul) := ⟨_, rfl⟩
      obtain ⟨ve, hve⟩ : ∃ ve, ve = (se || f.eat) := ⟨_, rfl⟩
      have hne : w.heap.size ≠ w.heap.size + 1 := Nat.ne_of_lt (Nat.lt_succ_self _)
      have HVN := Lib.hid hvn
      have HVE := Lib.hid hve
      have HNE := Lib.hid hne
      have HS := Lib.hid hs'
      unfold factV at HA2
      clear hs' hvn hve hne
      cases sn <;> cases se <;>
      · go_upto_region 8 with (go_at_call 62; (with_reducible refine HA2.out.mono ?_); rintro e w5 ⟨rfl, hb⟩; have b0 := HQ.out.1.below hb; have b1 := HQ.out.2.1.below hb; have HB := Lib.hid (bl_on HQ.out.2.2 hb); have a0 := b1.c0; have a1 := b1.c1; have a2 := b1.c2; have af := b1.free; have l1 := b1.lt; have l0 := b0.lt; have B0 := Lib.hid b0; have B1 := Lib.hid b1; clear hb b0 b1)
        generalize hW : World.alloc _ _ = W
        have d0 : Bl W w.heap.size 85 #[.bool false, .bool false, .bool false] := by rw [← hW]; exact Bl.past ((B0.out.off HNE.out).off HNE.out)
        have d1 : Bl W (w.heap.size + 1) 85 #[.bool vn, .bool ve, .bool false] := by rw [← hW, HVN.out, HVE.out]; exact Bl.past ((B1.out.p0 _).p1 _)
        have d8 : Bl W w5.heap.size 85 #[.bool f.nul, .bool f.eat, .bool f.fai] := by rw [← hW]; exact Bl.new' (by simp)
        have dB : Below w.heap.size w W := by rw [← hW]; exact bl_new (bl_put (bl_put HB.out (Nat.le_succ _)) (Nat.le_succ _))
        clear hW
        have q2 := d8.c2
        have r0 := d1.c0
        have r1 := d1.c1
        have r2 := d1.c2
        have rf := d1.free
        have e0 := d0.c0
        have e1 := d0.c1
        have e2 := d0.c2
        have ef := d0.free
        clear a0 a1 a2 af l1 l0 B0 B1 HB
        have D0 := Lib.hid d0
        have D1 := Lib.hid d1
        have DB := Lib.hid dB
        clear d0 d1 d8 dB
        cases hok : f.fai with
        | false =>
          have hs2 := HS.out
          rw [cho_stop hok, ← HVN.out, ← HVE.out] at hs2
          rw [hok] at q2
          have HE := Lib.hid hs2
          clear hs2 hok
          go_wp2
          rw [← HE.out]
          have d := ((D0.out.p0 (.bool vn)).p1 (.bool ve)).p2 (.bool false)
          have k0 := d.c0
          have k1 := d.c1
          have k2 := d.c2
          exact bodyPost_ret (v := factV ⟨vn, ve, false⟩) (by simp [results, Try.results64, go_sem, factV, k0, k1, k2]) rfl ⟨rfl, below_p3 DB.out (Nat.le_refl _) _ _ _⟩
        | true =>
          have hs2 := HS.out
          rw [cho_go hok, ← HVN.out, ← HVE.out] at hs2
          rw [hok] at q2
          have HE := Lib.hid hs2
          clear hs2 hok
          go_wp2
          go_roundw
          case rel => exact ⟨k + 1, vn, ve, by omega, by go_num, ⟨D0.out, D1.out, DB.out⟩, HE.out⟩
          case measure => simp [intOf]; omega
    · obtain rfl : k = kids.length := by omega
      have k1 : ¬ (kids.length : Int) < (kids.length : Int) := by omega
      rw [List.drop_length] at hs
      have HE := Lib.hid (show (⟨sn, se, true⟩ : Fc) = choF (kids.map (atF l)) from hs)
      have B0 := Lib.hid hq.1
      have HB := Lib.hid hq.2.2
      have a0 := hq.2.1.c0
      have a1 := hq.2.1.c1
      have a2 := hq.2.1.c2
      have af := hq.2.1.free
      have c0 := hq.1.c0
      have c1 := hq.1.c1
      have c2 := hq.1.c2
      have cf := hq.1.free
      have hne : w.heap.size ≠ w.heap.size + 1 := Nat.ne_of_lt (Nat.lt_succ_self _)
      have HNE := Lib.hid hne
      have l1 := hq.2.1.lt
      have l0 := hq.1.lt
      clear hq hs hne
      go_wp2
      rw [← HE.out]
      have d := (((B0.out.off (c := w.heap.size + 1) (o := 2) (v := .bool true) HNE.out).p0 (.bool sn)).p1 (.bool se)).p2 (.bool true)
      have r0 := d.c0
      have r1 := d.c1
      have r2 := d.c2
      exact bodyPost_ret (v := factV ⟨sn, se, true⟩) (by simp [results, Try.results64, go_sem, factV, r0, r1, r2]) rfl ⟨rfl, below_p3 (bl_put HB.out (Nat.le_succ _)) (Nat.le_refl _) _ _ _⟩
end Go.Proofs.Ytnfjbjmdempafaa
namespace Go.Proofs.Ytnfjbjmdempafaa
open Go.RowKit
set_option maxHeartbeats 4000000 in
theorem fsing_any (op : Int) (f : Fc) (w : World) (h5 : 5 ≤ op) (h9 : op ≤ 9) : Calls Try.prog 65 #[.int .i64 op, factV f] w fun e w' => e = .returned (factV (singF op f)) ∧ Below w.heap.size w w' := by
  rcases (show op = 5 ∨ op = 6 ∨ op = 7 ∨ op = 8 ∨ op = 9 by omega) with rfl | rfl | rfl | rfl | rfl
  · rw [show singF 5 f = ⟨f.fai, f.eat, false⟩ from rfl]
    obtain ⟨a, b, c⟩ := f
    unfold factV
    go_enter Try.func65, Try.ntmps65
    go_wp2
    exact bodyPost_ret (v := .agg #[.bool c, .bool b, .bool false]) (by simp [results, Try.results65, go_sem]) rfl ⟨rfl, two_new _ _ _⟩
  · rw [show singF 6 f = ⟨f.nul && f.fai, f.eat, f.fai⟩ from rfl]
    obtain ⟨a, b, c⟩ := f
    unfold factV
    cases a <;>
    · go_enter Try.func65, Try.ntmps65
      go_wp2
      exact bodyPost_ret (v := .agg #[.bool _, .bool b, .bool c]) (by simp [results, Try.results65, go_sem]) rfl ⟨rfl, two_new _ _ _⟩
  · rw [show singF 7 f = ⟨f.nul || f.fai, f.eat, false⟩ from rfl]
    obtain ⟨a, b, c⟩ := f
    unfold factV
    cases a <;>
    · go_enter Try.func65, Try.ntmps65
      go_wp2
      exact bodyPost_ret (v := .agg #[.bool _, .bool b, .bool false]) (by simp [results, Try.results65, go_sem]) rfl ⟨rfl, two_new _ _ _⟩
  · rw [show singF 8 f = ⟨f.ok, false, f.fai⟩ from rfl]
    have HS := Lib.hid fun W => fsucc_any f W
    obtain ⟨W, hW⟩ : ∃ W, ((w.alloc (Obj.cells #[.bool f.nul, .bool f.eat, .bool f.fai] 85)).alloc (Obj.cells #[.bool false, .bool false, .bool false] 85)) = W := ⟨_, rfl⟩
    have hB : Below w.heap.size w W := by rw [← hW]; exact two_new _ _ _
    have b1 : Bl W w.heap.size 85 #[.bool f.nul, .bool f.eat, .bool f.fai] := by rw [← hW]; exact Bl.past (Bl.new w _ _)
    have b2 : Bl W (w.heap.size + 1) 85 #[.bool false, .bool false, .bool false] := by rw [← hW]; exact Bl.new' (by simp)
    unfold factV at HS
    unfold factV
    go_enter Try.func65, Try.ntmps65
    go_wp2_with (fail)
    have a0 := b1.c0
    have a1 := b1.c1
    have a2 := b1.c2
    have l1 := b1.lt
    have l2 := b2.lt
    have HB := Lib.hid hB
    have B1 := Lib.hid b1
    have B2 := Lib.hid b2
    clear hW hB b1 b2
    go_region_with (go_at_call 74; (with_reducible refine (HS.out _).mono ?_); rintro e w4 ⟨rfl, hb⟩; have HB4 := Lib.hid ((HB.out.drew).trans (hb.mono HB.out.size)); have b2 := B2.out.drew.below hb; have c0 := b2.c0; have c1 := b2.c1; have c2 := b2.c2; have cf := b2.free; have b1 := B1.out.drew.below hb; have d2 := b1.c2; have B24 := Lib.hid b2; clear hb b1 b2)
    all_goals go_wp2
    all_goals
      have b2 := ((B24.out.p0 (.bool f.ok)).p1 (.bool false)).p2 (.bool f.fai)
      have r0 := b2.c0
      have r1 := b2.c1
      have r2 := b2.c2
      exact bodyPost_ret (v := .agg #[.bool f.ok, .bool false, .bool f.fai]) (by simp [results, Try.results65, go_sem, r0, r1, r2]) rfl ⟨rfl, below_p3 HB4.out (Nat.le_succ _) _ _ _⟩
  · rw [show singF 9 f = ⟨f.fai, false, f.ok⟩ from rfl]
    have HS := Lib.hid fun W => fsucc_any f W
    obtain ⟨W, hW⟩ : ∃ W, ((w.alloc (Obj.cells #[.bool f.nul, .bool f.eat, .bool f.fai] 85)).alloc (Obj.cells #[.bool false, .bool false, .bool false] 85)) = W := ⟨_, rfl⟩
    have hB : Below w.heap.size w W := by rw [← hW]; exact two_new _ _ _
    have b1 : Bl W w.heap.size 85 #[.bool f.nul, .bool f.eat, .bool f.fai] := by rw [← hW]; exact Bl.past (Bl.new w _ _)
    have b2 : Bl W (w.heap.size + 1) 85 #[.bool false, .bool false, .bool false] := by rw [← hW]; exact Bl.new' (by simp)
    unfold factV at HS
    unfold factV
    go_enter Try.func65, Try.ntmps65
    go_wp2_with (fail)
    have a0 := b1.c0
    have a1 := b1.c1
    have a2 := b1.c2
    have l1 := b1.lt
    have l2 := b2.lt
    have HB := Lib.hid hB
    have B1 := Lib.hid b1
    have B2 := Lib.hid b2
    clear hW hB b1 b2
    go_region_with (go_at_call 74; (with_reducible refine (HS.out _).mono ?_); rintro e w4 ⟨rfl, hb⟩; have HB4 := Lib.hid ((HB.out.drew).trans (hb.mono HB.out.size)); have b2 := B2.out.drew.below hb; have c0 := b2.c0; have c1 := b2.c1; have c2 := b2.c2; have cf := b2.free; have b1 := B1.out.drew.below hb; have d2 := b1.c2; have B24 := Lib.hid b2; clear hb b1 b2)
    all_goals go_wp2
    all_goals
      have b2 := ((B24.out.p0 (.bool f.fai)).p1 (.bool false)).p2 (.bool f.ok)
      have r0 := b2.c0
      have r1 := b2.c1
      have r2 := b2.c2
      exact bodyPost_ret (v := .agg #[.bool f.fai, .bool false, .bool f.ok]) (by simp [results, Try.results65, go_sem, r0, r1, r2]) rfl ⟨rfl, below_p3 HB4.out (Nat.le_succ _) _ _ _⟩
end Go.Proofs.Ytnfjbjmdempafaa
namespace Go.Proofs.Ytnfjbjmdempafaa
open Go.RowKit
theorem three_new (w : World) (o o' o'' : Obj) : Below w.heap.size w (((w.alloc o).alloc o').alloc o'') := bl_new (two_new w o o')
theorem zeroS_is (n : PN) : zeroS n = z4 n.s0 n.s1 n.s2 n.s3 := by
  unfold zeroS z4
  rw [Bool.eq_iff_iff]
  simp
/-- What the table asks of a node. -/
structure NodeOk (n : PN) : Prop where
  lo : 0 ≤ n.op
  hi : n.op ≤ 9
  one : 5 ≤ n.op → ∃ k, n.kids = [k]
theorem nodeF_5 {rs : List PR} {n : PN} {l : List Fc} {k : Int} (h : 5 ≤ n.op) (hk : n.kids = [k]) : nodeF rs n l = singF n.op (atF l k) := by
  unfold nodeF
  rw [if_neg (by omega), if_neg (by omega), if_neg (by omega), if_neg (by omega), if_neg (by omega), hk]; rfl
set_option maxHeartbeats 8000000 in
set_option maxRecDepth 100000 in
theorem fyield_any (rv nv v : Value) (rs : List PR) (ns : List PN) (l : List Fc) (i : Nat) (n : PN) (w : World) (hR : RulesIn w rv rs) (hN : NodesAt w nv ns) (hF : FactsAt w v l) (hn : ns[i]? = some n) (hO : NodeOk n) :
    Calls Try.prog 47 #[.agg #[rv, nv], .int .i64 (i : Int), v] w fun e w' => e = .returned (factV (nodeF rs n l)) ∧ Below w.heap.size w w' := by
  obtain ⟨-, na, nc, rfl, hna⟩ := id hN
  have hil := (List.getElem?_eq_some_iff.1 hn).1
  rcases hna with h0 | ⟨nb, no, rfl, hca⟩
  · rw [h0] at hil; exact absurd hil (Nat.not_lt_zero _)
  obtain ⟨kv, c0, c1, c2, c3, c4, c5, c6, hk, hkl⟩ := hca i n hn
  have lr := lt_of_cell c0
  have k1 : (i : Int) < (ns.length : Int) := by omega
  obtain ⟨ka, kc, rfl, -⟩ := id hk
  obtain ⟨x0, x1, x5⟩ := hO
  by_cases e0 : n.op = 0
  · rw [e0] at c0
    have hv : nodeF rs n l = ⟨true, false, false⟩ := by unfold nodeF; rw [if_pos e0]
    rw [hv]
    obtain ⟨-, ra, rc, rfl, -⟩ := id hR
    clear hR hN hF hca hk x0 x1 x5 hv
    go_enter Try.func47, Try.ntmps47
    go_wp2
    exact bodyPost_ret (v := factV ⟨true, false, false⟩) (by simp [results, Try.results47, go_sem, factV]) rfl ⟨rfl, three_new _ _ _ _⟩
  by_cases e1 : n.op = 1
  · rw [e1] at c0
    have hv : nodeF rs n l = ⟨false, !zeroS n, true⟩ := by unfold nodeF; rw [if_neg e0, if_pos e1]
    rw [hv]
    have HS := sne (zeroS_is n).symm
    generalize zeroS n = z at *
    obtain ⟨-, ra, rc, rfl, -⟩ := id hR
    clear hR hN hF hca hk x0 x1 x5 hv
    go_enter Try.func47, Try.ntmps47
    go_wp2_with (with_reducible refine gwpList_agg BinOp.neq 33 _ _ _ rfl rfl _ _ rfl rfl ggt_set _ (HS.out _) ?_)
    exact bodyPost_ret (v := factV ⟨false, !z, true⟩) (by simp [results, Try.results47, go_sem, factV]) rfl ⟨rfl, three_new _ _ _ _⟩
  by_cases e2 : n.op = 2
  · rw [e2] at c0
    have hv : nodeF rs n l = atF l (rootF rs n.rule) := by unfold nodeF; rw [if_neg e0, if_neg e1, if_pos e2]
    rw [hv]
    have HR := Lib.hid (fun (W : World) (hb : Below w.heap.size w W) => froot_any rv (.slice (some ⟨nb, no, none⟩) ns.length nc) rs n.rule W (hR.kept hb (Nat.le_refl _)))
    have HF := Lib.hid (fun (W : World) (hb : Below w.heap.size w W) => fat_any v l (rootF rs n.rule) W (hF.kept hb (Nat.le_refl _)))
    generalize atF l (rootF rs n.rule) = f at *
    generalize rootF rs n.rule = r at *
    obtain ⟨-, ra, rc, rfl, -⟩ := id hR
    unfold factV at HF
    clear hR hN hF hca hk x0 x1 x5 hv
    go_enter Try.func47, Try.ntmps47
    go_wp2_with (first
      | (go_at_call 59; (with_reducible refine (HR.out _ (three_new _ _ _ _)).mono ?_); rintro e w4 ⟨rfl, hb⟩; have HB := Lib.hid (bl_on (three_new w _ _ _) hb); have b1 := (Bl.past (Bl.new' (w := w.alloc _) (B := w.heap.size + 1) (cs := #[.bool false, .bool false, .bool false]) (t := 85) (by simp))).below hb; have B1 := Lib.hid b1; clear hb b1)
      | (go_at_call 62; (with_reducible refine (HF.out _ HB.out).mono ?_); rintro e w5 ⟨rfl, hb⟩; have HB2 := Lib.hid (bl_on HB.out hb); have b1 := B1.out.below hb; have a0 := b1.c0; have a1 := b1.c1; have a2 := b1.c2; have af := b1.free; have D0 := Lib.hid b1; clear hb b1))
    have d := ((D0.out.p0 (.bool f.nul)).p1 (.bool f.eat)).p2 (.bool f.fai)
    have k0 := d.c0
    have k1 := d.c1
    have k2 := d.c2
    exact bodyPost_ret (v := factV f) (by simp [results, Try.results47, go_sem, factV, k0, k1, k2]) rfl ⟨rfl, below_p3 HB2.out (Nat.le_succ _) _ _ _⟩
  by_cases e3 : n.op = 3
  · rw [e3] at c0
    have hv : nodeF rs n l = seqF (n.kids.map (atF l)) := by unfold nodeF; rw [if_neg e0, if_neg e1, if_neg e2, if_pos e3]
    rw [hv]
    have HF := Lib.hid (fun (W : World) (hb : Below w.heap.size w W) => fseq_any _ v n.kids l W (hk.kept hb (Nat.le_refl _)) hkl (hF.kept hb (Nat.le_refl _)))
    generalize seqF (n.kids.map (atF l)) = f at *
    obtain ⟨-, ra, rc, rfl, -⟩ := id hR
    unfold factV at HF
    clear hR hN hF hca hk x0 x1 x5 hv
    go_enter Try.func47, Try.ntmps47
    go_wp2_with (go_at_call 63; (with_reducible refine (HF.out _ (three_new _ _ _ _)).mono ?_); rintro e w4 ⟨rfl, hb⟩; have HB2 := Lib.hid (bl_on (three_new w _ _ _) hb); have b1 := (Bl.past (Bl.new' (w := w.alloc _) (B := w.heap.size + 1) (cs := #[.bool false, .bool false, .bool false]) (t := 85) (by simp))).below hb; have a0 := b1.c0; have a1 := b1.c1; have a2 := b1.c2; have af := b1.free; have D0 := Lib.hid b1; clear hb b1)
    have d := ((D0.out.p0 (.bool f.nul)).p1 (.bool f.eat)).p2 (.bool f.fai)
    have k0 := d.c0
    have k1 := d.c1
    have k2 := d.c2
    exact bodyPost_ret (v := factV f) (by simp [results, Try.results47, go_sem, factV, k0, k1, k2]) rfl ⟨rfl, below_p3 HB2.out (Nat.le_succ _) _ _ _⟩
  by_cases e4 : n.op = 4
  · rw [e4] at c0
    have hv : nodeF rs n l = choF (n.kids.map (atF l)) := by unfold nodeF; rw [if_neg e0, if_neg e1, if_neg e2, if_neg e3, if_pos e4]
    rw [hv]
    have HF := Lib.hid (fun (W : World) (hb : Below w.heap.size w W) => fcho_any _ v n.kids l W (hk.kept hb (Nat.le_refl _)) hkl (hF.kept hb (Nat.le_refl _)))
    generalize choF (n.kids.map (atF l)) = f at *
    obtain ⟨-, ra, rc, rfl, -⟩ := id hR
    unfold factV at HF
    clear hR hN hF hca hk x0 x1 x5 hv
    go_enter Try.func47, Try.ntmps47
    go_wp2_with (go_at_call 64; (with_reducible refine (HF.out _ (three_new _ _ _ _)).mono ?_); rintro e w4 ⟨rfl, hb⟩; have HB2 := Lib.hid (bl_on (three_new w _ _ _) hb); have b1 := (Bl.past (Bl.new' (w := w.alloc _) (B := w.heap.size + 1) (cs := #[.bool false, .bool false, .bool false]) (t := 85) (by simp))).below hb; have a0 := b1.c0; have a1 := b1.c1; have a2 := b1.c2; have af := b1.free; have D0 := Lib.hid b1; clear hb b1)
    have d := ((D0.out.p0 (.bool f.nul)).p1 (.bool f.eat)).p2 (.bool f.fai)
    have k0 := d.c0
    have k1 := d.c1
    have k2 := d.c2
    exact bodyPost_ret (v := factV f) (by simp [results, Try.results47, go_sem, factV, k0, k1, k2]) rfl ⟨rfl, below_p3 HB2.out (Nat.le_succ _) _ _ _⟩
  have h5 : 5 ≤ n.op := by omega
  obtain ⟨x, hx⟩ := x5 h5
  rw [nodeF_5 h5 hx]
  have HF := Lib.hid (fun (W : World) (hb : Below w.heap.size w W) => fat_any v l x W (hF.kept hb (Nat.le_refl _)))
  have HG := Lib.hid (fun (W : World) => fsing_any n.op (atF l x) W h5 x1)
  obtain ⟨ka', kc', e, hki⟩ := hk
  injection e with e6 e7 e8
  subst e6 e8
  rw [hx] at hki
  rcases hki with h | ⟨kb, ko, rfl, hkc⟩
  · cases h
  have kx := hkc 0 x rfl
  rw [Nat.add_zero] at kx
  have lk := lt_of_cell kx
  rw [hx] at c1
  generalize atF l x = f at *
  generalize hfg : singF n.op f = g at *
  obtain ⟨-, ra, rc, rfl, -⟩ := id hR
  have q0 : (n.op == 0) = false := ibeq_no e0
  have q1 : (n.op == 1) = false := ibeq_no e1
  have q2 : (n.op == 2) = false := ibeq_no e2
  have q3 : (n.op == 3) = false := ibeq_no e3
  have q4 : (n.op == 4) = false := ibeq_no e4
  unfold factV at HF HG
  clear hR hN hF hca hkc x0 x1 x5 e0 e1 e2 e3 e4 h5 hkl hfg hx
  generalize n.op = op at *
  go_enter Try.func47, Try.ntmps47
  go_wp2_with (fail)
  generalize hW : World.alloc (World.alloc _ _) _ = W
  have d0 : Bl W (w.heap.size + 1) 85 #[.bool false, .bool false, .bool false] := by rw [← hW]; exact Bl.past (Bl.new' (by simp))
  have d1 : Bl W (w.heap.size + 1 + 1) 35 #[.int .i64 op, .slice (some ⟨kb, ko, none⟩) 1 kc, .int .i64 n.rule, .int .u64 n.s0, .int .u64 n.s1, .int .u64 n.s2, .int .u64 n.s3] := by rw [← hW]; exact Bl.new' (by simp)
  have dB : Below w.heap.size w W := by rw [← hW]; exact three_new _ _ _ _
  have p0 : W.cell? ⟨w.heap.size + 1 + 1, 0, none⟩ = some (.int .i64 op) := d1.cell (o := 0) rfl
  have p1 : W.cell? ⟨w.heap.size + 1 + 1, 1, none⟩ = some (.slice (some ⟨kb, ko, none⟩) 1 kc) := d1.cell (o := 1) rfl
  have px : W.cell? ⟨kb, ko, none⟩ = some (.int .i64 x) := by rw [(bcell dB).1 _ _ lk]; exact kx
  have l1 := d1.lt
  have l0 := d0.lt
  have D0 := Lib.hid d0
  have D1 := Lib.hid d1
  have DB := Lib.hid dB
  clear hW d0 d1 dB c0 c1 c2 c3 c4 c5 c6 kx lr
  go_region_with (first
    | (go_at_call 62; (with_reducible refine (HF.out _ (Below.drew DB.out)).mono ?_); rintro e w4 ⟨rfl, hb⟩; have HB := Lib.hid (bl_on (Below.drew DB.out) hb); have b0 := D0.out.drew.below hb; have b1 := D1.out.drew.below hb; have t0 : w4.cell? ⟨w.heap.size + 1 + 1, 0, none⟩ = some (.int .i64 op) := b1.cell (o := 0) rfl; have B0 := Lib.hid b0; clear hb b0 b1)
    | (go_at_call 65; (with_reducible refine (HG.out _).mono ?_); rintro e w5 ⟨rfl, hb⟩; have HB2 := Lib.hid (bl_on HB.out hb); have b0 := B0.out.below hb; have a0 := b0.c0; have a1 := b0.c1; have a2 := b0.c2; have af := b0.free; have E0 := Lib.hid b0; clear hb b0))
  all_goals go_wp2
  all_goals
    have d := ((E0.out.p0 (.bool g.nul)).p1 (.bool g.eat)).p2 (.bool g.fai)
    have k0 := d.c0
    have k1 := d.c1
    have k2 := d.c2
    exact bodyPost_ret (v := factV g) (by simp [results, Try.results47, go_sem, factV, k0, k1, k2]) rfl ⟨rfl, below_p3 HB2.out (Nat.le_succ _) _ _ _⟩
end Go.Proofs.Ytnfjbjmdempafaa
namespace Go.Proofs.Ytnfjbjmdempafaa
open Go.RowKit
/-- Block b holds the facts l. -/
def FBk (w : World) (b : Nat) (t : TypeId) (l : List Fc) : Prop := ∃ cs, Bl w b t cs ∧ ∀ i f, l[i]? = some f → cs[i * 3]? = some (.bool f.nul) ∧ cs[i * 3 + 1]? = some (.bool f.eat) ∧ cs[i * 3 + 2]? = some (.bool f.fai)
theorem FBk.below {w w' : World} {b : Nat} {t : TypeId} {l : List Fc} (h : FBk w b t l) (hb : Below w.heap.size w w') : FBk w' b t l := by obtain ⟨cs, h1, h2⟩ := h; exact ⟨cs, h1.below hb, h2⟩
theorem FBk.past {w : World} {b : Nat} {t : TypeId} {l : List Fc} {o : Obj} (h : FBk w b t l) : FBk (w.alloc o) b t l := h.below (one_new w o)
theorem FBk.off {w : World} {b c o : Nat} {t : TypeId} {l : List Fc} {v : Value} (h : FBk w b t l) (hc : b ≠ c) : FBk (w.setCell ⟨c, o, none⟩ v) b t l := by obtain ⟨cs, h1, h2⟩ := h; exact ⟨cs, h1.off hc, h2⟩
theorem FBk.drew {w : World} {b : Nat} {t : TypeId} {l : List Fc} (h : FBk w b t l) : FBk w.drew b t l := h
theorem FBk.lt {w : World} {b : Nat} {t : TypeId} {l : List Fc} (h : FBk w b t l) : b < w.heap.size := by obtain ⟨cs, h1, h2⟩ := h; exact h1.lt
theorem FBk.free {w : World} {b : Nat} {t : TypeId} {l : List Fc} (h : FBk w b t l) (o : Nat) : w.frozen? ⟨b, o, none⟩ = false := by obtain ⟨cs, h1, h2⟩ := h; exact h1.free o
theorem FBk.at {w : World} {b i : Nat} {t : TypeId} {l : List Fc} {f : Fc} (h : FBk w b t l) (hi : l[i]? = some f) : FactAt w b (i * 3) f := by
  obtain ⟨cs, h1, h2⟩ := h
  obtain ⟨a0, a1, a2⟩ := h2 i f hi
  exact ⟨h1.cell a0, h1.cell a1, h1.cell a2⟩
theorem FBk.facts {w : World} {b c : Nat} {t : TypeId} {l : List Fc} (h : FBk w b t l) (hl : l.length ≤ maxLen) : FactsAt w (.slice (some ⟨b, 0, none⟩) l.length c) l :=
  ⟨hl, _, _, rfl, .inr ⟨b, 0, rfl, fun i f hi => by rw [Nat.zero_add]; exact h.at hi⟩⟩
theorem below_p3' {n b o o' o'' : Nat} {w w' : World} (h : Below n w w') (hb : n ≤ b) (x y z : Value) : Below n w (((w'.setCell ⟨b, o, none⟩ x).setCell ⟨b, o', none⟩ y).setCell ⟨b, o'', none⟩ z) :=
  ((h.setCell (p := ⟨b, o, none⟩) hb x).setCell (p := ⟨b, o', none⟩) hb y).setCell (p := ⟨b, o'', none⟩) hb z
theorem FBk.put {w : World} {b i : Nat} {t : TypeId} {l : List Fc} {f : Fc} (h : FBk w b t l) (hi : i < l.length) :
    FBk (((w.setCell ⟨b, i * 3, none⟩ (.bool f.nul)).setCell ⟨b, i * 3 + 1, none⟩ (.bool f.eat)).setCell ⟨b, i * 3 + 2, none⟩ (.bool f.fai)) b t (l.set i f) := by
  obtain ⟨cs, h1, h2⟩ := h
  refine ⟨_, ((h1.set' _).set' _).set' _, fun j g hj => ?_⟩
  obtain ⟨y, hy⟩ : ∃ y, l[i]? = some y := ⟨_, List.getElem?_eq_getElem hi⟩
  obtain ⟨b0, b1, b2⟩ := h2 i y hy
  have z0 := (Array.getElem?_eq_some_iff.1 b0).1
  have z1 := (Array.getElem?_eq_some_iff.1 b1).1
  have z2 := (Array.getElem?_eq_some_iff.1 b2).1
  by_cases e : i = j
  · subst e
    rw [List.getElem?_set_self hi] at hj
    obtain rfl := Option.some.inj hj
    refine ⟨?_, ?_, ?_⟩
    · rw [Array.getElem?_setIfInBounds_ne (by omega), Array.getElem?_setIfInBounds_ne (by omega), Array.getElem?_setIfInBounds_self_of_lt (by simpa using z0)]
    · rw [Array.getElem?_setIfInBounds_ne (by omega), Array.getElem?_setIfInBounds_self_of_lt (by simpa using z1)]
    · rw [Array.getElem?_setIfInBounds_self_of_lt (by simpa using z2)]
  · rw [List.getElem?_set_ne e] at hj
    obtain ⟨a0, a1, a2⟩ := h2 j g hj
    refine ⟨?_, ?_, ?_⟩
    · rw [Array.getElem?_setIfInBounds_ne (by omega), Array.getElem?_setIfInBounds_ne (by omega), Array.getElem?_setIfInBounds_ne (by omega)]; exact a0
    · rw [Array.getElem?_setIfInBounds_ne (by omega), Array.getElem?_setIfInBounds_ne (by omega), Array.getElem?_setIfInBounds_ne (by omega)]; exact a1
    · rw [Array.getElem?_setIfInBounds_ne (by omega), Array.getElem?_setIfInBounds_ne (by omega), Array.getElem?_setIfInBounds_ne (by omega)]; exact a2
theorem infoFacts : (Try.prog.info? 85).map (fun i => (i.zero, i.size, i.bytes)) = some (some (.agg #[.bool false, .bool false, .bool false]), 3, 3) := by kernel_rfl
/-- make([]Facts, n). -/
theorem run_make_facts (kl kc : IntKind) (n : Nat) (hn : n ≤ 1000000) (w : World) :
    (Instr.makeSlice 60 (.int kl (n : Int)) (.int kc (n : Int))).run Try.prog w = .ok (.slice (some ⟨w.heap.size, 0, none⟩) n n) (w.alloc (.cells (madeCells #[.bool false, .bool false, .bool false] (n * 3)) 85)) := by
  obtain ⟨i, hi, hz, hs, hb⟩ := info_parts infoFacts
  have hr := run_make (P := Try.prog) w 60 85 i _ Try.underlying60 hi hz kl kc n n (by omega) (Int.le_refl _) (by rw [hb]; omega) (by omega)
  simp only [Int.toNat_natCast, hs] at hr
  exact hr
theorem FBk.made (w : World) (n : Nat) (t : TypeId) : FBk (w.alloc (.cells (madeCells #[.bool false, .bool false, .bool false] (n * 3)) t)) w.heap.size t (List.replicate n fc0) := by
  refine ⟨_, Bl.new w t _, fun i f hi => ?_⟩
  rw [List.getElem?_replicate] at hi
  split at hi
  · rename_i hin
    obtain rfl := Option.some.inj hi
    have key : ∀ j, j < n * 3 → (madeCells #[.bool false, .bool false, .bool false] (n * 3))[j]? = some (.bool false) := fun j hj => by
      have h3 : j % 3 = 0 ∨ j % 3 = 1 ∨ j % 3 = 2 := by omega
      rcases h3 with h3 | h3 | h3 <;> simp [madeCells, hj, h3]
    exact ⟨key _ (by omega), key _ (by omega), key _ (by omega)⟩
  · cases hi
/-- The facts so far. -/
def SoFar (l m : List Fc) (k : Nat) : Prop := m.length = l.length ∧ ∀ j, j < k → m[j]? = l[j]?
theorem SoFar.step {l m : List Fc} {k : Nat} {x : Fc} (h : SoFar l m k) (hx : l[k]? = some x) : SoFar l (m.set k x) (k + 1) := by
  have hk := (List.getElem?_eq_some_iff.1 hx).1
  refine ⟨by rw [List.length_set]; exact h.1, fun j hj => ?_⟩
  by_cases e : k = j
  · subst e; rw [List.getElem?_set_self (by rw [h.1]; exact hk), hx]
  · rw [List.getElem?_set_ne e]; exact h.2 j (by omega)
theorem SoFar.done {l m : List Fc} (h : SoFar l m l.length) : m = l := by
  refine List.ext_getElem? fun j => ?_
  rcases Nat.lt_or_ge j l.length with hj | hj
  · exact h.2 j hj
  · rw [List.getElem?_eq_none hj, List.getElem?_eq_none (by rw [h.1]; exact hj)]
/-- A new slice of the facts l. -/
def NewF (l : List Fc) (w : World) (e : Ending) (w' : World) : Prop := ∃ a c, e = .returned (.slice a l.length c) ∧ FactsAt w' (.slice a l.length c) l ∧ Below w.heap.size w w'
end Go.Proofs.Ytnfjbjmdempafaa
