/- Grammars in memory; comparison of slices of numbers, of rules, of nodes; gram.Same. -/
import Derived.Deep.QuietTactic
import Derived.BigQuiet
import Derived.Test.YtnfjbjmdempafaaPxA
import Derived.Test.YtnfjbjmdempafaaPxGramCmp
namespace Go.Proofs.Ytnfjbjmdempafaa
open Go.RowKit
def intsV (l : List Int) : List Value := l.map fun k => Value.int .i64 k
/-- v is a slice that holds the numbers l. -/
def IntsAt (w : World) (v : Value) (l : List Int) : Prop := ∃ a cap, v = .slice a l.length cap ∧ (l = [] ∨ ∃ b off, a = some ⟨b, off, none⟩ ∧ ∀ i x, l[i]? = some x → w.cell? ⟨b, off + i, none⟩ = some (.int .i64 x))
theorem decN {p : Prop} [Decidable p] (h : ¬ p) : Hid (decide p = false) := Lib.hid (decide_eq_false h)
theorem decY {p : Prop} [Decidable p] (h : p) : Hid (decide p = true) := Lib.hid (decide_eq_true h)
set_option maxHeartbeats 1000000 in
theorem intsEq_any (u v : Value) (l m : List Int) (w : World) (hl : l.length ≤ maxLen) (hu : IntsAt w u l) (hv : IntsAt w v m) :
    Calls Try.prog 11 #[u, v] w fun e w' => e = .returned (.bool (decide (l = m))) ∧ ∃ q, w' = w.drewN q := by
  unfold maxLen at hl
  obtain ⟨a, ca, rfl, ha⟩ := hu
  obtain ⟨b, cb, rfl, hb⟩ := hv
  by_cases hlen : l.length = m.length
  · have q1 : ((l.length : Int) != (m.length : Int)) = false := by rw [hlen]; simp
    go_enter Try.func11, Try.ntmps11
    go_wp2
    go_loopw [13] (fun c wr => ∃ (k q : Nat), k ≤ l.length ∧ c = .int .i64 k ∧ wr = w.drewN q ∧ l.take k = m.take k) (fun c _ => l.length - (intOf c).toNat)
    case atStart => exact ⟨0, 0, Nat.zero_le _, rfl, rfl, rfl⟩
    case round =>
      obtain ⟨k, q, hk, rfl, rfl, hq⟩ := hrel
      have HQ := Lib.hid hq
      clear hq
      by_cases hlt : k < l.length
      · obtain ⟨x, hx⟩ : ∃ x, l[k]? = some x := ⟨_, List.getElem?_eq_getElem hlt⟩
        obtain ⟨y, hy⟩ : ∃ y, m[k]? = some y := ⟨_, List.getElem?_eq_getElem (by omega)⟩
        rcases ha with h0 | ⟨ab, ao, rfl, hca⟩
        · rw [h0] at hlt; exact absurd hlt (Nat.not_lt_zero _)
        rcases hb with h0 | ⟨bb, bo, rfl, hcb⟩
        · rw [hlen, h0] at hlt; exact absurd hlt (Nat.not_lt_zero _)
        have c1 := hca k x hx
        have c2 := hcb k y hy
        have hlm : k < m.length := by omega
        have k1 : (k : Int) < (l.length : Int) := by omega
        have k2 : (k : Int) < (m.length : Int) := by omega
        have HX := Lib.hid hx
        have HY := Lib.hid hy
        have HL := Lib.hid hlen
        clear hca hcb hx hy hlen
        by_cases hxy : x = y
        · subst hxy
          have q2 : (x != x) = false := by simp
          go_wp2
          go_quiet (fail)
          go_wp2
          go_roundw
          case rel => exact ⟨k + 1, _, by omega, by go_num, rfl, by rw [take_snoc' l k x HX.out, take_snoc' m k x HY.out, HQ.out]⟩
          case measure => simp [intOf]; omega
        · have q2 : (x != y) = true := ibne_yes hxy
          have HN : Hid (decide (l = m) = false) := decN fun e => by
            have h1 := HX.out
            rw [e, HY.out] at h1
            exact hxy (Option.some.inj h1).symm
          go_wp2
          go_quiet (fail)
          go_wp2
          go_ret
          exact ⟨ret_bool HN.out.symm, _, World.drewN_drewN _ _ _⟩
      · have HN : Hid (decide (l = m) = true) := decY (by
          have hk' : k = l.length := by omega
          have h1 := HQ.out
          rw [List.take_of_length_le (by omega), List.take_of_length_le (by omega)] at h1
          exact h1)
        have k1 : ¬ (k : Int) < (l.length : Int) := by omega
        go_wp2
        go_ret
        exact ⟨ret_bool HN.out.symm, _, rfl⟩
  · have q1 : ((l.length : Int) != (m.length : Int)) = true := ibne_yes (by omega)
    have HN : Hid (decide (l = m) = false) := decN fun e => hlen (by rw [e])
    go_enter Try.func11, Try.ntmps11
    go_wp2
    go_ret
    exact ⟨ret_bool HN.out.symm, 0, rfl⟩
theorem IntsAt.kept {n : Nat} {w w' : World} {v : Value} {l : List Int} (h : IntsAt w v l) (hb : Below n w w') (hn : w.heap.size ≤ n) : IntsAt w' v l := by
  obtain ⟨a, cap, rfl, h⟩ := h
  rcases h with h | ⟨b, off, rfl, hc⟩
  · exact ⟨a, cap, rfl, .inl h⟩
  · exact ⟨_, cap, rfl, .inr ⟨b, off, rfl, fun i c hi => by have := lt_of_cell (hc i c hi); rw [(bcell hb).1 _ _ (by omega)]; exact hc i c hi⟩⟩
/-- The cells of a node at an address. -/
def NodeAt (w : World) (b o : Nat) (n : PN) : Prop := ∃ kv, w.cell? ⟨b, o, none⟩ = some (.int .i64 n.op) ∧ w.cell? ⟨b, o + 1, none⟩ = some kv ∧ w.cell? ⟨b, o + 2, none⟩ = some (.int .i64 n.rule) ∧ w.cell? ⟨b, o + 3, none⟩ = some (.int .u64 n.s0) ∧ w.cell? ⟨b, o + 4, none⟩ = some (.int .u64 n.s1) ∧ w.cell? ⟨b, o + 5, none⟩ = some (.int .u64 n.s2) ∧ w.cell? ⟨b, o + 6, none⟩ = some (.int .u64 n.s3) ∧ IntsAt w kv n.kids ∧ n.kids.length ≤ maxLen
def RuleAt (w : World) (b o : Nat) (r : PR) : Prop := w.cell? ⟨b, o, none⟩ = some (.string r.name) ∧ w.cell? ⟨b, o + 1, none⟩ = some (.int .i64 r.root)
def NodesAt (w : World) (v : Value) (ns : List PN) : Prop := ns.length ≤ maxLen ∧ ∃ a cap, v = .slice a ns.length cap ∧ (ns = [] ∨ ∃ b off, a = some ⟨b, off, none⟩ ∧ ∀ i n, ns[i]? = some n → NodeAt w b (off + i * 7) n)
def RulesIn (w : World) (v : Value) (rs : List PR) : Prop := rs.length ≤ maxLen ∧ ∃ a cap, v = .slice a rs.length cap ∧ (rs = [] ∨ ∃ b off, a = some ⟨b, off, none⟩ ∧ ∀ i r, rs[i]? = some r → RuleAt w b (off + i * 2) r)
theorem NodeAt.kept {k : Nat} {w w' : World} {b o : Nat} {n : PN} (h : NodeAt w b o n) (hb : Below k w w') (hk : w.heap.size ≤ k) : NodeAt w' b o n := by
  obtain ⟨kv, h0, h1, h2, h3, h4, h5, h6, h7, h8⟩ := h
  have hl := lt_of_cell h0
  have hc := fun o => (bcell hb).1 b o (by omega)
  exact ⟨kv, by rw [hc]; exact h0, by rw [hc]; exact h1, by rw [hc]; exact h2, by rw [hc]; exact h3, by rw [hc]; exact h4, by rw [hc]; exact h5, by rw [hc]; exact h6, h7.kept hb hk, h8⟩
theorem RuleAt.kept {k : Nat} {w w' : World} {b o : Nat} {r : PR} (h : RuleAt w b o r) (hb : Below k w w') (hk : w.heap.size ≤ k) : RuleAt w' b o r := by
  obtain ⟨h0, h1⟩ := h
  have hl := lt_of_cell h0
  have hc := fun o => (bcell hb).1 b o (by omega)
  exact ⟨by rw [hc]; exact h0, by rw [hc]; exact h1⟩
theorem NodesAt.kept {k : Nat} {w w' : World} {v : Value} {ns : List PN} (h : NodesAt w v ns) (hb : Below k w w') (hk : w.heap.size ≤ k) : NodesAt w' v ns := by
  obtain ⟨hl, a, cap, rfl, h⟩ := h
  rcases h with h | ⟨b, off, rfl, hc⟩
  · exact ⟨hl, a, cap, rfl, .inl h⟩
  · exact ⟨hl, _, cap, rfl, .inr ⟨b, off, rfl, fun i c hi => (hc i c hi).kept hb hk⟩⟩
theorem RulesIn.kept {k : Nat} {w w' : World} {v : Value} {rs : List PR} (h : RulesIn w v rs) (hb : Below k w w') (hk : w.heap.size ≤ k) : RulesIn w' v rs := by
  obtain ⟨hl, a, cap, rfl, h⟩ := h
  rcases h with h | ⟨b, off, rfl, hc⟩
  · exact ⟨hl, a, cap, rfl, .inl h⟩
  · exact ⟨hl, _, cap, rfl, .inr ⟨b, off, rfl, fun i c hi => (hc i c hi).kept hb hk⟩⟩
theorem str_beq {s t : ByteArray} : (s.toList == t.toList) = decide (s = t) := by
  by_cases h : s = t
  · subst h; simp
  · rw [decide_eq_false h, beq_eq_false_iff_ne]
    intro e
    rw [ByteArray.toList_eq, ByteArray.toList_eq] at e
    exact h (ByteArray.ext (Array.ext' e))
end Go.Proofs.Ytnfjbjmdempafaa
