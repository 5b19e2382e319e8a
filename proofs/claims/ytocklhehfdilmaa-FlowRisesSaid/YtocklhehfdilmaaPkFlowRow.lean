/- A block of facts that a function owns; flow.Step. -/
import Derived.Test.YtocklhehfdilmaaPkFlowYield
namespace Go.Proofs.Ytocklhehfdilmaa
open Go.RowKit
/-- Block b holds the facts l. -/
def FBk (w : World) (b : Nat) (t : TypeId) (l : List Fc) : Prop := ∃ cs, Bl w b t cs ∧ ∀ i f, l[i]? = some f → cs[i * 3]? = some (.bool f.nul) ∧ cs[i * 3 + 1]? = some (.bool f.eat) ∧ cs[i * 3 + 2]? = some (.bool f.fai)
theorem FBk.below {w w' : World} {b : Nat} {t : TypeId} {l : List Fc} (h : FBk w b t l) (hb : Below w.heap.size w w') : FBk w' b t l := by obtain ⟨cs, h1, h2⟩ := h; exact ⟨cs, h1.below hb, h2⟩
theorem FBk.past {w : World} {b : Nat} {t : TypeId} {l : List Fc} {o : Obj} (h : FBk w b t l) : FBk (w.alloc o) b t l := h.below (one_new w o)
theorem FBk.off {w : World} {b c o : Nat} {t : TypeId} {l : List Fc} {v : Value} (h : FBk w b t l) (hc : b ≠ c) : FBk (w.setCell ⟨c, o, none⟩ v) b t l := by obtain ⟨cs, h1, h2⟩ := h; exact ⟨cs, h1.off hc, h2⟩
theorem FBk.drew {w : World} {b : Nat} {t : TypeId} {l : List Fc} (h : FBk w b t l) : FBk w.drew b t l := h
theorem FBk.lt {w : World} {b : Nat} {t : TypeId} {l : List Fc} (h : FBk w b t l) : b < w.heap.size := by obtain ⟨cs, h1, h2⟩ := h; exact h1.lt
theorem FBk.free {w : World} {b : Nat} {t : TypeId} {l : List Fc} (h : FBk w b t l) (o : Nat) : w.frozen? ⟨b, o, none⟩ = false := by obtain ⟨cs, h1, h2⟩ := h; exact h1.free o
theorem FBk.at {w : World} {b i : Nat} {t : TypeId} {l : List Fc} {f : Fc} (h : FBk w b t l) (hi : l[i]? = some f) : FactAt w b (i * 3) f := by
  obtain ⟨cs, h1, h2⟩ := h
  obtain ⟨a0, a1, a2⟩ := h2 i f hi
  exact ⟨h1.cell a0, h1.cell a1, h1.cell a2⟩
theorem FBk.facts {w : World} {b c : Nat} {t : TypeId} {l : List Fc} (h : FBk w b t l) (hl : l.length ≤ maxLen) : FactsAt w (.slice (some ⟨b, 0, none⟩) l.length c) l :=
  ⟨hl, _, _, rfl, .inr ⟨b, 0, rfl, fun i f hi => by rw [Nat.zero_add]; exact h.at hi⟩⟩
theorem below_p3' {n b o o' o'' : Nat} {w w' : World} (h : Below n w w') (hb : n ≤ b) (x y z : Value) : Below n w (((w'.setCell ⟨b, o, none⟩ x).setCell ⟨b, o', none⟩ y).setCell ⟨b, o'', none⟩ z) :=
  ((h.setCell (p := ⟨b, o, none⟩) hb x).setCell (p := ⟨b, o', none⟩) hb y).setCell (p := ⟨b, o'', none⟩) hb z
theorem FBk.put {w : World} {b i : Nat} {t : TypeId} {l : List Fc} {f : Fc} (h : FBk w b t l) (hi : i < l.length) :
    FBk (((w.setCell ⟨b, i * 3, none⟩ (.bool f.nul)).setCell ⟨b, i * 3 + 1, none⟩ (.bool f.eat)).setCell ⟨b, i * 3 + 2, none⟩ (.bool f.fai)) b t (l.set i f) := by
  obtain ⟨cs, h1, h2⟩ := h
  refine ⟨_, ((h1.set' _).set' _).set' _, fun j g hj => ?_⟩
  obtain ⟨y, hy⟩ : ∃ y, l[i]? = some y := ⟨_, List.getElem?_eq_getElem hi⟩
  obtain ⟨b0, b1, b2⟩ := h2 i y hy
  have z0 := (Array.getElem?_eq_some_iff.1 b0).1
  have z1 := (Array.getElem?_eq_some_iff.1 b1).1
  have z2 := (Array.getElem?_eq_some_iff.1 b2).1
  by_cases e : i = j
  · subst e
    rw [List.getElem?_set_self hi] at hj
    obtain rfl := Option.some.inj hj
    refine ⟨?_, ?_, ?_⟩
    · rw [Array.getElem?_setIfInBounds_ne (by omega), Array.getElem?_setIfInBounds_ne (by omega), Array.getElem?_setIfInBounds_self_of_lt (by simpa using z0)]
    · rw [Array.getElem?_setIfInBounds_ne (by omega), Array.getElem?_setIfInBounds_self_of_lt (by simpa using z1)]
    · rw [Array.getElem?_setIfInBounds_self_of_lt (by simpa using z2)]
  · rw [List.getElem?_set_ne e] at hj
    obtain ⟨a0, a1, a2⟩ := h2 j g hj
    refine ⟨?_, ?_, ?_⟩
    · rw [Array.getElem?_setIfInBounds_ne (by omega), Array.getElem?_setIfInBounds_ne (by omega), Array.getElem?_setIfInBounds_ne (by omega)]; exact a0
    · rw [Array.getElem?_setIfInBounds_ne (by omega), Array.getElem?_setIfInBounds_ne (by omega), Array.getElem?_setIfInBounds_ne (by omega)]; exact a1
    · rw [Array.getElem?_setIfInBounds_ne (by omega), Array.getElem?_setIfInBounds_ne (by omega), Array.getElem?_setIfInBounds_ne (by omega)]; exact a2
theorem infoFacts : (Try.prog.info? 36).map (fun i => (i.zero, i.size, i.bytes)) = some (some (.agg #[.bool false, .bool false, .bool false]), 3, 3) := by kernel_rfl
/-- make([]Facts, n). -/
theorem run_make_facts (kl kc : IntKind) (n : Nat) (hn : n ≤ 1000000) (w : World) :
    (Instr.makeSlice 32 (.int kl (n : Int)) (.int kc (n : Int))).run Try.prog w = .ok (.slice (some ⟨w.heap.size, 0, none⟩) n n) (w.alloc (.cells (madeCells #[.bool false, .bool false, .bool false] (n * 3)) 36)) := by
  obtain ⟨i, hi, hz, hs, hb⟩ := info_parts infoFacts
  have hr := run_make (P := Try.prog) w 32 36 i _ Try.underlying32 hi hz kl kc n n (by omega) (Int.le_refl _) (by rw [hb]; omega) (by omega)
  simp only [Int.toNat_natCast, hs] at hr
  exact hr
theorem FBk.made (w : World) (n : Nat) (t : TypeId) : FBk (w.alloc (.cells (madeCells #[.bool false, .bool false, .bool false] (n * 3)) t)) w.heap.size t (List.replicate n fc0) := by
  refine ⟨_, Bl.new w t _, fun i f hi => ?_⟩
  rw [List.getElem?_replicate] at hi
  split at hi
  · rename_i hin
    obtain rfl := Option.some.inj hi
    have key : ∀ j, j < n * 3 → (madeCells #[.bool false, .bool false, .bool false] (n * 3))[j]? = some (.bool false) := fun j hj => by
      have h3 : j % 3 = 0 ∨ j % 3 = 1 ∨ j % 3 = 2 := by omega
      rcases h3 with h3 | h3 | h3 <;> simp [madeCells, hj, h3]
    exact ⟨key _ (by omega), key _ (by omega), key _ (by omega)⟩
  · cases hi
/-- The facts so far. -/
def SoFar (l m : List Fc) (k : Nat) : Prop := m.length = l.length ∧ ∀ j, j < k → m[j]? = l[j]?
theorem SoFar.step {l m : List Fc} {k : Nat} {x : Fc} (h : SoFar l m k) (hx : l[k]? = some x) : SoFar l (m.set k x) (k + 1) := by
  have hk := (List.getElem?_eq_some_iff.1 hx).1
  refine ⟨by rw [List.length_set]; exact h.1, fun j hj => ?_⟩
  by_cases e : k = j
  · subst e; rw [List.getElem?_set_self (by rw [h.1]; exact hk), hx]
  · rw [List.getElem?_set_ne e]; exact h.2 j (by omega)
theorem SoFar.done {l m : List Fc} (h : SoFar l m l.length) : m = l := by
  refine List.ext_getElem? fun j => ?_
  rcases Nat.lt_or_ge j l.length with hj | hj
  · exact h.2 j hj
  · rw [List.getElem?_eq_none hj, List.getElem?_eq_none (by rw [h.1]; exact hj)]
/-- A new slice of the facts l. -/
def NewF (l : List Fc) (w : World) (e : Ending) (w' : World) : Prop := ∃ a c, e = .returned (.slice a l.length c) ∧ FactsAt w' (.slice a l.length c) l ∧ Below w.heap.size w w'
set_option maxHeartbeats 8000000 in
set_option maxRecDepth 100000 in
theorem fstep_any (rv nv v : Value) (rs : List PR) (ns : List PN) (l : List Fc) (w : World) (hR : RulesIn w rv rs) (hN : NodesAt w nv ns) (hF : FactsAt w v l) (hO : ∀ n, n ∈ ns → NodeOk n) (hs : ns.length ≤ 1000000) :
    Calls Try.prog 15 #[.agg #[rv, nv], v] w (NewF (stepF rs ns l) w) := by
  obtain ⟨-, ra, rc, rfl, -⟩ := id hR
  obtain ⟨-, na, nc, rfl, -⟩ := id hN
  have HY := Lib.hid (fun (W : World) (hb : Below w.heap.size w W) (i : Nat) (n : PN) (hn : ns[i]? = some n) => fyield_any _ _ v rs ns l i n W (hR.kept hb (Nat.le_refl _)) (hN.kept hb (Nat.le_refl _)) (hF.kept hb (Nat.le_refl _)) hn (hO n (List.mem_of_getElem? hn)))
  have hmk := fun w => run_make_facts .i64 .i64 ns.length hs w
  have hlen := stepF_length rs ns l
  have HA := Lib.hid (fun (i : Nat) (n : PN) (hn : ns[i]? = some n) => stepF_at (rs := rs) (l := l) hn)
  generalize stepF rs ns l = L at *
  clear hR hN hF hO
  go_enter Try.func15, Try.ntmps15
  go_wp2
  go_loopw [13] (fun c wr => ∃ (k : Nat) (m : List Fc), k ≤ ns.length ∧ c = .int .i64 (k : Int) ∧ SoFar L m k ∧ FBk wr (w.heap.size + 1) 36 m ∧ Bl wr w.heap.size 25 #[.slice ra rs.length rc, .slice na ns.length nc] ∧ Below w.heap.size w wr) (fun c _ => ns.length - (intOf c).toNat)
  case atStart =>
    have h1 := FBk.made (w.alloc (.cells #[.slice ra rs.length rc, .slice na ns.length nc] 25)) ns.length 36
    rw [show (w.alloc (.cells #[.slice ra rs.length rc, .slice na ns.length nc] 25)).heap.size = w.heap.size + 1 by simp] at h1
    exact ⟨0, List.replicate ns.length fc0, Nat.zero_le _, rfl, ⟨by rw [List.length_replicate, hlen], fun j hj => by omega⟩, h1, Bl.past (Bl.new w _ _), two_new _ _ _⟩
  case round =>
    obtain ⟨k, m, hk, rfl, hm, hf, hg, hb⟩ := hrel
    by_cases hlt : k < ns.length
    · have k1 : (k : Int) < (ns.length : Int) := by omega
      obtain ⟨n, hn⟩ : ∃ n, ns[k]? = some n := ⟨_, List.getElem?_eq_getElem hlt⟩
      have HC := Lib.hid (HY.out wr hb k n hn)
      have hx := HA.out k n hn
      generalize nodeF rs n l = x at *
      have g0 := hg.cell (o := 0) (u := .slice ra rs.length rc) rfl
      have g1 := hg.cell (o := 1) (u := .slice na ns.length nc) rfl
      have HS := Lib.hid (hm.step hx)
      have HM := Lib.hid (show k < m.length by rw [hm.1, hlen]; exact hlt)
      have HF := Lib.hid hf
      have HG := Lib.hid hg
      have HB := Lib.hid hb
      obtain ⟨y, hy⟩ : ∃ y, m[k]? = some y := ⟨_, List.getElem?_eq_getElem HM.out⟩
      have HYY := Lib.hid hy
      unfold factV at HC
      clear hn hx hm hf hg hb hy
      go_wp2_with (go_at_call 27; (with_reducible refine HC.out.mono ?_); rintro e w5 ⟨rfl, hb⟩; have f5 := HF.out.below hb; have HB5 := Lib.hid (bl_on HB.out hb); have HG5 := Lib.hid (HG.out.below hb); have z := f5.free; obtain ⟨a0, a1, a2⟩ := f5.at HYY.out; have lf := f5.lt; have HF5 := Lib.hid f5; clear hb f5)
      go_roundw
      case rel => exact ⟨k + 1, m.set k x, by omega, by go_num, HS.out, HF5.out.put HM.out, ((HG5.out.off (Nat.ne_of_lt (Nat.lt_succ_self _))).off (Nat.ne_of_lt (Nat.lt_succ_self _))).off (Nat.ne_of_lt (Nat.lt_succ_self _)), below_p3' HB5.out (Nat.le_succ _) _ _ _⟩
      case measure => simp [intOf]; omega
    · obtain rfl : k = ns.length := by omega
      have k1 : ¬ (ns.length : Int) < (ns.length : Int) := by omega
      rw [← hlen] at hm
      obtain rfl := hm.done
      have HF := Lib.hid hf
      have HB := Lib.hid hb
      clear hf hb hg hm
      go_wp2
      go_ret
      exact ⟨some ⟨w.heap.size + 1, 0, none⟩, ns.length, by rw [hlen]; rfl, HF.out.facts (by rw [hlen]; unfold maxLen; omega), HB.out⟩
end Go.Proofs.Ytocklhehfdilmaa
