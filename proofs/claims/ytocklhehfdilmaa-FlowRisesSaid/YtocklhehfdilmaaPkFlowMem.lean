/- Facts in memory; flow.at, flow.root, Facts.succeeds; the reference's ok. -/
import Derived.Deep.RegionWith
import Derived.Deep.Cut
import Derived.Test.YtocklhehfdilmaaPkFlowMath
import Derived.Test.YtocklhehfdilmaaPkB
import Derived.Test.YtocklhehfdilmaaPkK
namespace Go.Proofs.Ytocklhehfdilmaa
open Go.RowKit
def factV (f : Fc) : Value := .agg #[.bool f.nul, .bool f.eat, .bool f.fai]
/-- The cells of facts at an address. -/
def FactAt (w : World) (b o : Nat) (f : Fc) : Prop := w.cell? ⟨b, o, none⟩ = some (.bool f.nul) ∧ w.cell? ⟨b, o + 1, none⟩ = some (.bool f.eat) ∧ w.cell? ⟨b, o + 2, none⟩ = some (.bool f.fai)
/-- v is a slice that holds the facts l. -/
def FactsAt (w : World) (v : Value) (l : List Fc) : Prop := l.length ≤ maxLen ∧ ∃ a cap, v = .slice a l.length cap ∧ (l = [] ∨ ∃ b off, a = some ⟨b, off, none⟩ ∧ ∀ i f, l[i]? = some f → FactAt w b (off + i * 3) f)
theorem FactAt.kept {n : Nat} {w w' : World} {b o : Nat} {f : Fc} (h : FactAt w b o f) (hb : Below n w w') (hn : w.heap.size ≤ n) : FactAt w' b o f := by
  obtain ⟨h0, h1, h2⟩ := h
  have hl := lt_of_cell h0
  have hc := fun o => (bcell hb).1 b o (by omega)
  exact ⟨by rw [hc]; exact h0, by rw [hc]; exact h1, by rw [hc]; exact h2⟩
theorem FactsAt.kept {n : Nat} {w w' : World} {v : Value} {l : List Fc} (h : FactsAt w v l) (hb : Below n w w') (hn : w.heap.size ≤ n) : FactsAt w' v l := by
  obtain ⟨hl, a, cap, rfl, h⟩ := h
  refine ⟨hl, a, cap, rfl, ?_⟩
  rcases h with h | ⟨b, off, rfl, hc⟩
  · exact .inl h
  · exact .inr ⟨b, off, rfl, fun i f hi => (hc i f hi).kept hb hn⟩
theorem FactsAt.below {w w' : World} {v : Value} {l : List Fc} (h : FactsAt w v l) (hb : Below w.heap.size w w') : FactsAt w' v l := h.kept hb (Nat.le_refl _)
theorem FactsAt.slice {w : World} {v : Value} {l : List Fc} (h : FactsAt w v l) : ∃ a c, v = .slice a l.length c := by obtain ⟨-, a, c, e, -⟩ := h; exact ⟨a, c, e⟩
theorem FactsAt.at {w : World} {a : Option Addr} {n c : Nat} {l : List Fc} {i : Nat} {f : Fc} (h : FactsAt w (.slice a n c) l) (hx : l[i]? = some f) : ∃ b off, a = some ⟨b, off, none⟩ ∧ FactAt w b (off + i * 3) f := by
  obtain ⟨-, a', c', e, h⟩ := h
  injection e with e1 e2 e3
  subst e1
  rcases h with h | ⟨b, off, rfl, hc⟩
  · rw [h] at hx; simp at hx
  · exact ⟨b, off, rfl, hc i f hx⟩
/-- A block of three cells, as the cells of facts. -/
theorem Bl.p0 {w : World} {b : Nat} {t : TypeId} {x y z : Value} (h : Bl w b t #[x, y, z]) (u : Value) : Bl (w.setCell ⟨b, 0, none⟩ u) b t #[u, y, z] := h.set' u
theorem Bl.p1 {w : World} {b : Nat} {t : TypeId} {x y z : Value} (h : Bl w b t #[x, y, z]) (u : Value) : Bl (w.setCell ⟨b, 1, none⟩ u) b t #[x, u, z] := h.set' u
theorem Bl.p2 {w : World} {b : Nat} {t : TypeId} {x y z : Value} (h : Bl w b t #[x, y, z]) (u : Value) : Bl (w.setCell ⟨b, 2, none⟩ u) b t #[x, y, u] := h.set' u
theorem Bl.c0 {w : World} {b : Nat} {t : TypeId} {x y z : Value} (h : Bl w b t #[x, y, z]) : w.cell? ⟨b, 0, none⟩ = some x := h.cell (o := 0) rfl
theorem Bl.c1 {w : World} {b : Nat} {t : TypeId} {x y z : Value} (h : Bl w b t #[x, y, z]) : w.cell? ⟨b, 1, none⟩ = some y := h.cell (o := 1) rfl
theorem Bl.c2 {w : World} {b : Nat} {t : TypeId} {x y z : Value} (h : Bl w b t #[x, y, z]) : w.cell? ⟨b, 2, none⟩ = some z := h.cell (o := 2) rfl
/-- Old memory through stores into new blocks, new blocks and calls. -/
theorem bl_put {b o : Nat} {v : Value} {w W : World} (h : Below w.heap.size w W) (hb : w.heap.size ≤ b) : Below w.heap.size w (W.setCell ⟨b, o, none⟩ v) := h.setCell (p := ⟨b, o, none⟩) hb v
theorem bl_new {o : Obj} {w W : World} (h : Below w.heap.size w W) : Below w.heap.size w (W.alloc o) := h.alloc h.size o
theorem bl_on {w W W' : World} (h : Below w.heap.size w W) (hb : Below W.heap.size W W') : Below w.heap.size w W' := h.trans (hb.mono h.size)
theorem Bl.off {b c o : Nat} {t : TypeId} {cs : Array Value} {v : Value} {w : World} (h : Bl w b t cs) (hc : b ≠ c) : Bl (w.setCell ⟨c, o, none⟩ v) b t cs := h.other hc v
/-- Three stores into a new block. -/
theorem below_p3 {n b : Nat} {w w' : World} (h : Below n w w') (hb : n ≤ b) (x y z : Value) : Below n w (((w'.setCell ⟨b, 0, none⟩ x).setCell ⟨b, 1, none⟩ y).setCell ⟨b, 2, none⟩ z) :=
  ((h.setCell (p := ⟨b, 0, none⟩) hb x).setCell (p := ⟨b, 1, none⟩) hb y).setCell (p := ⟨b, 2, none⟩) hb z
theorem fsucc_any (f : Fc) (w : World) : Calls Try.prog 45 #[factV f] w fun e w' => e = .returned (.bool f.ok) ∧ Below w.heap.size w w' := by
  obtain ⟨a, b, c⟩ := f
  unfold factV Fc.ok
  cases a <;> cases b <;>
  · go_enter Try.func45, Try.ntmps45
    go_wp2
    go_ret
    exact ⟨rfl, one_new _ _⟩
theorem rok_any (f : Fc) (w : World) : Calls Try.prog 38 #[factV f] w fun e w' => e = .returned (.bool f.ok) ∧ Below w.heap.size w w' := by
  obtain ⟨a, b, c⟩ := f
  unfold factV Fc.ok
  cases a <;> cases b <;>
  · go_enter Try.func38, Try.ntmps38
    go_wp2
    go_ret
    exact ⟨rfl, one_new _ _⟩
theorem fat_any (v : Value) (l : List Fc) (i : Int) (w : World) (h : FactsAt w v l) :
    Calls Try.prog 28 #[v, .int .i64 i] w fun e w' => e = .returned (factV (atF l i)) ∧ Below w.heap.size w w' := by
  obtain ⟨a, c, rfl⟩ := h.slice
  by_cases h0 : i < 0
  · rw [atF_neg h0]
    go_enter Try.func28, Try.ntmps28
    go_wp2
    exact bodyPost_ret (v := factV fc0) (by simp [results, Try.results28, go_sem, factV, fc0]) rfl ⟨rfl, one_new _ _⟩
  · by_cases h1 : (l.length : Int) ≤ i
    · rw [atF_big h1]
      go_enter Try.func28, Try.ntmps28
      go_wp2
      exact bodyPost_ret (v := factV fc0) (by simp [results, Try.results28, go_sem, factV, fc0]) rfl ⟨rfl, one_new _ _⟩
    · obtain ⟨k, rfl⟩ : ∃ k : Nat, i = k := ⟨i.toNat, by omega⟩
      have hk : k < l.length := by omega
      obtain ⟨f, hf⟩ : ∃ f, l[k]? = some f := ⟨_, List.getElem?_eq_getElem hk⟩
      rw [atF_some hf]
      obtain ⟨b, off, rfl, c0, c1, c2⟩ := h.at hf
      have hlt := lt_of_cell c0
      have k1 : (k : Int) < (l.length : Int) := by omega
      clear h hf
      go_enter Try.func28, Try.ntmps28
      go_wp2
      exact bodyPost_ret (v := factV f) (by simp [results, Try.results28, go_sem, factV]) rfl ⟨rfl, one_new _ _⟩
theorem froot_any (rv nv : Value) (rs : List PR) (r : Int) (w : World) (hR : RulesIn w rv rs) :
    Calls Try.prog 29 #[.agg #[rv, nv], .int .i64 r] w fun e w' => e = .returned (.int .i64 (rootF rs r)) ∧ Below w.heap.size w w' := by
  obtain ⟨-, ra, rc, rfl, hra⟩ := id hR
  by_cases h0 : r < 0
  · rw [rootF_neg h0]
    go_enter Try.func29, Try.ntmps29
    go_wp2
    go_ret
    exact ⟨rfl, one_new _ _⟩
  · by_cases h1 : (rs.length : Int) ≤ r
    · rw [rootF_big h1]
      go_enter Try.func29, Try.ntmps29
      go_wp2
      go_ret
      exact ⟨rfl, one_new _ _⟩
    · obtain ⟨k, rfl⟩ : ∃ k : Nat, r = k := ⟨r.toNat, by omega⟩
      have hk : k < rs.length := by omega
      obtain ⟨x, hx⟩ : ∃ x, rs[k]? = some x := ⟨_, List.getElem?_eq_getElem hk⟩
      rw [rootF_at hx]
      rcases hra with h | ⟨rb, ro, rfl, hca⟩
      · rw [h] at hk; exact absurd hk (Nat.not_lt_zero _)
      obtain ⟨r0, r1⟩ := hca k x hx
      have lr := lt_of_cell r0
      have k1 : (k : Int) < (rs.length : Int) := by omega
      clear hR hca hx
      go_enter Try.func29, Try.ntmps29
      go_wp2
      go_ret
      exact ⟨rfl, one_new _ _⟩
end Go.Proofs.Ytocklhehfdilmaa
