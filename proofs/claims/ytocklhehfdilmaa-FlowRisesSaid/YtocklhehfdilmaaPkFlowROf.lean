/- The reference's Of and Within. -/
import Derived.Test.YtocklhehfdilmaaPkFlowRef
namespace Go.Proofs.Ytocklhehfdilmaa
open Go.RowKit
theorem FactsAt.drewN {w : World} {v : Value} {l : List Fc} {q : Nat} (h : FactsAt w v l) : FactsAt (w.drewN q) v l := h.kept (below_drewN (Below.refl _ _)) (Nat.le_refl _)
/-- A round of the reference's search: as many steps as have been made. -/
def ROfR (rs : List PR) (ns : List PN) (rv nv : Value) (w : World) (g : Nat) (u : Value) (W : World) : Prop :=
  ∃ (k : Nat) (a : Option Addr) (c : Nat), k + g = 3 * ns.length ∧ u = .slice a ns.length c ∧ FactsAt W (.slice a ns.length c) (itrF rs ns k) ∧ Bl W w.heap.size 25 #[rv, nv] ∧ Below w.heap.size w W
set_option maxHeartbeats 4000000 in
set_option maxRecDepth 100000 in
theorem r11of_any (rv nv : Value) (rs : List PR) (ns : List PN) (w : World) (hR : RulesIn w rv rs) (hN : NodesAt w nv ns) (hO : FlowOk rs ns) :
    Calls Try.prog 10 #[.agg #[rv, nv]] w (NewF (lfp rs ns) w) := by
  obtain ⟨-, ra, rc, rfl, -⟩ := id hR
  obtain ⟨-, na, nc, rfl, -⟩ := id hN
  have hs := hO.nl
  have hmk := fun w => run_make_factsR .i64 .i64 ns.length (by omega) w
  have HS := Lib.hid (fun (v : Value) (k : Nat) (W : World) (hb : Below w.heap.size w W) (hF : FactsAt W v (itrF rs ns k)) => rstep_any _ _ v rs ns (itrF rs ns k) W (hR.kept hb (Nat.le_refl _)) (hN.kept hb (Nat.le_refl _)) hF (itrF_length rs ns k) hO)
  clear hR hN hO
  go_enter Try.func10, Try.ntmps10
  go_wp2
  go_loopg [3] (3 * ns.length) (fun g u wr => ROfR rs ns (.slice ra rs.length rc) (.slice na ns.length nc) w g u wr)
  case atStart =>
    have h1 := FBk.made (w.alloc (.cells #[.slice ra rs.length rc, .slice na ns.length nc] 25)) ns.length 35
    rw [show (w.alloc (.cells #[.slice ra rs.length rc, .slice na ns.length nc] 25)).heap.size = w.heap.size + 1 by simp] at h1
    have h2 := h1.facts (c := ns.length) (by rw [List.length_replicate]; unfold maxLen; omega)
    rw [List.length_replicate] at h2
    exact ⟨0, _, _, by omega, rfl, h2, Bl.past (Bl.new w _ _), two_new _ _ _⟩
  case round =>
    obtain ⟨k, a, c, hk, rfl, hf, hg, hb⟩ := hrel
    have g0 := hg.cell (o := 0) (u := .slice ra rs.length rc) rfl
    have g1 := hg.cell (o := 1) (u := .slice na ns.length nc) rfl
    have HC := Lib.hid (HS.out _ k wr hb hf)
    rw [show stepF rs ns (itrF rs ns k) = itrF rs ns (k + 1) from rfl] at HC
    unfold NewF at HC
    rw [itrF_length] at HC
    have HF := Lib.hid hf
    have HG := Lib.hid hg
    have HB := Lib.hid hb
    have hl1 := itrF_length rs ns k
    have HL := Lib.hid (show (itrF rs ns k).length ≤ 1000000 by omega)
    clear hf hg hb hl1
    by_cases he : itrF rs ns k = itrF rs ns (k + 1)
    · have hfix := lfp_of he.symm (by omega)
      have HX := Lib.hid hfix
      have HE := Lib.hid he
      have hll := lfp_length rs ns
      have HLL := Lib.hid hll
      clear hfix hll
      go_wp2_with (first
        | (go_at_call 17; (with_reducible refine HC.out.mono ?_); rintro e w4 ⟨a4, c4, rfl, hf4, hb⟩; have HB4 := Lib.hid (bl_on HB.out hb); have HF4 := Lib.hid hf4; have HF' := Lib.hid (HF.out.below hb); clear hb hf4)
        | (go_at_call 11; (with_reducible refine (rsame11_any _ _ _ _ _ HF'.out HF4.out HL.out).mono ?_); rintro e w5 ⟨hE, q, hw⟩; rw [decide_eq_true HE.out] at hE; obtain rfl := hE; subst hw))
      go_ret
      exact ⟨a, c, by rw [HLL.out]; rfl, by rw [HLL.out, ← HX.out]; exact HF'.out.drewN, below_drewN HB4.out⟩
    · have hless := itrF_less (rs := rs) (ns := ns) (k := k) (Ne.symm he)
      have HE := Lib.hid he
      go_wp2_with (first
        | (go_at_call 17; (with_reducible refine HC.out.mono ?_); rintro e w4 ⟨a4, c4, rfl, hf4, hb⟩; have HB4 := Lib.hid (bl_on HB.out hb); have HF4 := Lib.hid hf4; have HF' := Lib.hid (HF.out.below hb); have HG4 := Lib.hid (HG.out.below hb); clear hb hf4)
        | (go_at_call 11; (with_reducible refine (rsame11_any _ _ _ _ _ HF'.out HF4.out HL.out).mono ?_); rintro e w5 ⟨hE, q, hw⟩; rw [decide_eq_false HE.out] at hE; obtain rfl := hE; subst hw))
      go_roundg (3 * ns.length - (k + 1))
      case measure => omega
      case rel => exact ⟨k + 1, a4, c4, by omega, rfl, HF4.out.drewN, HG4.out, below_drewN HB4.out⟩
def leB (f g : Fc) : Bool := (!f.nul || g.nul) && ((!f.eat || g.eat) && (!f.fai || g.fai))
theorem leB_iff (f g : Fc) : leB f g = true ↔ Fle f g := by
  constructor
  · intro h
    unfold leB at h
    simp only [Bool.and_eq_true, Bool.or_eq_true, Bool.not_eq_true'] at h
    obtain ⟨h1, h2, h3⟩ := h
    exact ⟨fun e => by rcases h1 with h | h; rw [e] at h; cases h; exact h, fun e => by rcases h2 with h | h; rw [e] at h; cases h; exact h, fun e => by rcases h3 with h | h; rw [e] at h; cases h; exact h⟩
  · rintro ⟨h1, h2, h3⟩
    obtain ⟨a, b, c⟩ := f; obtain ⟨x, y, z⟩ := g
    unfold bleB at h1 h2 h3
    unfold leB
    cases a <;> cases b <;> cases c <;> simp_all
set_option maxHeartbeats 8000000 in
/-- Within: all facts of a list are true in another one of the same length. -/
theorem rwithin_any (u v : Value) (l m : List Fc) (b : Bool) (w : World) (hu : FactsAt w u l) (hv : FactsAt w v m) (hlen : l.length = m.length) (hl : l.length ≤ 1000000) (hb : b = true ↔ LeL l m) :
    Calls Try.prog 18 #[u, v] w fun e w' => e = .returned (.bool b) ∧ w' = w := by
  obtain ⟨ua, uc, rfl⟩ := hu.slice
  obtain ⟨va, vc, rfl⟩ := hv.slice
  have q1 : ((l.length : Int) == (m.length : Int)) = true := by rw [hlen]; simp
  go_enter Try.func18, Try.ntmps18
  go_wp2
  go_loopw [5] (fun c wr => ∃ k : Nat, k ≤ l.length ∧ c = .int .i64 k ∧ wr = w ∧ ∀ j x y, j < k → l[j]? = some x → m[j]? = some y → Fle x y) (fun c _ => l.length - (intOf c).toNat)
  case atStart => exact ⟨0, Nat.zero_le _, rfl, rfl, fun j x y h => absurd h (Nat.not_lt_zero _)⟩
  case round =>
    obtain ⟨k, hk, rfl, rfl, hq⟩ := hrel
    have HQ := Lib.hid hq
    clear hq
    by_cases hlt : k < l.length
    · obtain ⟨x, hx⟩ : ∃ x, l[k]? = some x := ⟨_, List.getElem?_eq_getElem hlt⟩
      obtain ⟨y, hy⟩ : ∃ y, m[k]? = some y := ⟨_, List.getElem?_eq_getElem (by omega)⟩
      obtain ⟨ab, ao, rfl, a0, a1, a2⟩ := hu.at hx
      obtain ⟨bb, bo, rfl, b0, b1, b2⟩ := hv.at hy
      have k1 : (k : Int) < (l.length : Int) := by omega
      have k2 : (k : Int) < (m.length : Int) := by omega
      have HN : Hid (∀ j x y, j < k + 1 → l[j]? = some x → m[j]? = some y → leB x y = true → Fle x y) := Lib.hid fun j x y _ _ _ h => (leB_iff x y).1 h
      have HGo : Hid (leB x y = true → ∀ j x y, j < k + 1 → l[j]? = some x → m[j]? = some y → Fle x y) := Lib.hid fun h j x' y' hj hx' hy' => by
        by_cases e : j = k
        · subst e
          rw [hx] at hx'; rw [hy] at hy'
          obtain rfl := Option.some.inj hx'
          obtain rfl := Option.some.inj hy'
          exact (leB_iff _ _).1 h
        · exact HQ.out j x' y' (by omega) hx' hy'
      have HNo : Hid (leB x y = false → b = false) := Lib.hid fun h => by
        cases b with
        | false => rfl
        | true =>
          have := (leB_iff _ _).2 ((hb.1 rfl).get hx hy)
          rw [h] at this; cases this
      obtain ⟨xa, xb, xc⟩ := x
      obtain ⟨ya, yb, yc⟩ := y
      clear hx hy hu hv HN HQ hb
      cases xa <;> cases ya <;> cases xb <;> cases yb <;> cases xc <;> cases yc <;>
      · go_wp2
        first
        | (go_ret; exact ⟨ret_bool (HNo.out rfl).symm, rfl⟩)
        | (go_roundw
           (case rel => exact ⟨k + 1, by omega, by go_num, by first | rfl | trivial, HGo.out rfl⟩)
           (case measure => simp [intOf]; omega))
    · have HN : Hid (b = true) := Lib.hid (hb.2 (LeL.of hlen fun i x y hx hy => HQ.out i x y (by have := (List.getElem?_eq_some_iff.1 hx).1; omega) hx hy))
      have k1 : ¬ (k : Int) < (l.length : Int) := by omega
      clear hb
      go_wp2
      go_ret
      exact ⟨ret_bool HN.out.symm, rfl⟩
end Go.Proofs.Ytocklhehfdilmaa
