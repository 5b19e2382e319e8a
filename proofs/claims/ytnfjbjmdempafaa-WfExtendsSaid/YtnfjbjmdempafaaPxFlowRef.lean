/- Rows of facts that grow; back and facts of the law; the reference's Step, Same, Of, Within. -/
import Derived.Deep.QuietTactic
import Derived.Test.YtnfjbjmdempafaaPxFlowRA
import Derived.Test.YtnfjbjmdempafaaPxI
namespace Go.Proofs.Ytnfjbjmdempafaa
open Go.RowKit
def factC (f : Fc) : List Value := [.bool f.nul, .bool f.eat, .bool f.fai]
def factsC (l : List Fc) : List Value := l.flatMap factC
theorem factsC_length (l : List Fc) : (factsC l).length = l.length * 3 := flat_length factC 3 (fun _ => rfl) l
theorem factsC_snoc (l : List Fc) (f : Fc) : factsC (l ++ [f]) = factsC l ++ [.bool f.nul, .bool f.eat, .bool f.fai] := by unfold factsC; rw [List.flatMap_append]; simp [factC]
theorem factsC_take {l : List Fc} {k : Nat} {f : Fc} (h : l[k]? = some f) : factsC (l.take (k + 1)) = factsC (l.take k) ++ [.bool f.nul, .bool f.eat, .bool f.fai] := by rw [take_snoc' l k f h, factsC_snoc]
theorem FactsAt.of_own {w : World} {base : Nat} {t : TypeId} {v : Value} {l : List Fc} (h : w.ownsRow base t 3 v l.length (factsC l)) (hl : l.length ≤ maxLen) : FactsAt w v l := by
  refine ⟨hl, ?_⟩
  have h' := h
  rcases h.2 with ⟨rfl, h0⟩ | ⟨g, cap, cur, rfl, -⟩
  · exact ⟨none, 0, by rw [h0], .inl (List.length_eq_zero_iff.1 h0)⟩
  · refine ⟨_, cap, rfl, .inr ⟨g, 0, rfl, fun i f hf => ?_⟩⟩
    have hc : ∀ j u, (factsC l)[j]? = some u → w.cell? ⟨g, 0 + j, none⟩ = some u := fun j u hu => by
      have := h'.cells rfl j u hu
      rw [Addr.add_lit] at this; exact this
    refine ⟨hc (i * 3) _ ?_, ?_, ?_⟩
    · have := flat_at factC 3 (fun _ => rfl) l i f 0 hf (by decide); exact this
    · rw [Nat.add_assoc]; exact hc (i * 3 + 1) _ (flat_at factC 3 (fun _ => rfl) l i f 1 hf (by decide))
    · rw [Nat.add_assoc]; exact hc (i * 3 + 2) _ (flat_at factC 3 (fun _ => rfl) l i f 2 hf (by decide))
theorem FactsAt.of_own' {w : World} {base n : Nat} {t : TypeId} {v : Value} {l : List Fc} (h : w.ownsRow base t 3 v n (factsC l)) (hn : l.length = n) (hl : l.length ≤ maxLen) : FactsAt w v l := by subst hn; exact FactsAt.of_own h hl
theorem infoFactsR : (Try.prog.info? 37).map (fun i => (i.zero, i.size, i.bytes)) = some (some (.agg #[.bool false, .bool false, .bool false]), 3, 3) := by kernel_rfl
theorem run_make_factsR (kl kc : IntKind) (n : Nat) (hn : n ≤ 1000000) (w : World) :
    (Instr.makeSlice 28 (.int kl (n : Int)) (.int kc (n : Int))).run Try.prog w = .ok (.slice (some ⟨w.heap.size, 0, none⟩) n n) (w.alloc (.cells (madeCells #[.bool false, .bool false, .bool false] (n * 3)) 37)) := by
  obtain ⟨i, hi, hz, hs, hb⟩ := info_parts infoFactsR
  have hr := run_make (P := Try.prog) w 28 37 i _ Try.underlying28 hi hz kl kc n n (by omega) (Int.le_refl _) (by rw [hb]; omega) (by omega)
  simp only [Int.toNat_natCast, hs] at hr
  exact hr
/-- Who may be asked for the facts of a grammar's nodes. -/
structure FlowOk (rs : List PR) (ns : List PN) : Prop where
  nl : ns.length ≤ 400
  kl : ∀ n, n ∈ ns → n.kids.length ≤ 60
  ok : ∀ n, n ∈ ns → NodeIn rs ns.length n
set_option maxHeartbeats 4000000 in
set_option maxRecDepth 100000 in
theorem rstep_any (rv nv v : Value) (rs : List PR) (ns : List PN) (l : List Fc) (w : World) (hR : RulesIn w rv rs) (hN : NodesAt w nv ns) (hF : FactsAt w v l) (hl : l.length = ns.length) (hO : FlowOk rs ns) :
    Calls Try.prog 24 #[.agg #[rv, nv], v] w (NewF (stepF rs ns l) w) := by
  obtain ⟨-, ra, rc, rfl, -⟩ := id hR
  obtain ⟨-, na, nc, rfl, -⟩ := id hN
  obtain ⟨ii, hii, hz0, hz1, hz2⟩ := info_parts infoFactsR
  have hs := hO.nl
  have HY := Lib.hid (fun (W : World) (hb : Below w.heap.size w W) (i : Nat) (n : PN) (hn : ns[i]? = some n) => rnode_any _ _ v rs ns l i n W (hR.kept hb (Nat.le_refl _)) (hN.kept hb (Nat.le_refl _)) (hF.kept hb (Nat.le_refl _)) hn (by rw [hl]; exact hO.ok n (List.mem_of_getElem? hn)))
  have hlen := stepF_length rs ns l
  have HA := Lib.hid (fun (i : Nat) (n : PN) (hn : ns[i]? = some n) => stepF_at (rs := rs) (l := l) hn)
  generalize stepF rs ns l = L at *
  clear hR hN hF hO hl
  go_enter Try.func24, Try.ntmps24
  go_wp2
  go_loopw [5, 6] (fun u c wr => ∃ k : Nat, k ≤ ns.length ∧ c = .int .i64 (k : Int) ∧ wr.ownsRow w.heap.size 37 3 u k (factsC (L.take k)) ∧ Bl wr w.heap.size 25 #[.slice ra rs.length rc, .slice na ns.length nc] ∧ Below w.heap.size w wr) (fun _ c _ => ns.length - (intOf c).toNat)
  case atStart => exact ⟨0, Nat.zero_le _, rfl, World.ownsRow_nil _ _ _ _, Bl.new w _ _, one_new _ _⟩
  case round =>
    obtain ⟨k, hk, rfl, ho, hg, hb⟩ := hrel
    obtain ⟨ua, uc, rfl⟩ := own_slice' ho
    have g0 := hg.cell (o := 0) (u := .slice ra rs.length rc) rfl
    have g1 := hg.cell (o := 1) (u := .slice na ns.length nc) rfl
    by_cases hlt : k < ns.length
    · have k1 : (k : Int) < (ns.length : Int) := by omega
      obtain ⟨n, hn⟩ : ∃ n, ns[k]? = some n := ⟨_, List.getElem?_eq_getElem hlt⟩
      have HC := Lib.hid (HY.out wr hb k n hn)
      have hx := HA.out k n hn
      generalize nodeF rs n l = f at *
      have HT := Lib.hid (factsC_take hx)
      have HO := Lib.hid ho
      have HG := Lib.hid hg
      have HB := Lib.hid hb
      unfold factV at HC
      clear hn hx ho hg hb
      go_wp2_with (first
        | (go_at_call 41; (with_reducible refine HC.out.mono ?_); rintro e w4 ⟨rfl, hb⟩; have HB4 := Lib.hid (bl_on HB.out hb); have HO4 := Lib.hid (ownsRow_grown HO.out hb); have HG4 := Lib.hid (HG.out.below hb); clear hb)
        | (at_builtin; refine wpList_append_own _ rfl _ _ 28 rfl w.heap.size 37 ii _ 3 3 Try.underlying28 hii hz0 hz1 hz2 rfl (by decide) _ k _ rfl (ownsRow_grown HO4.out (one_new _ _)) ⟨_, 0, none⟩ 1 1 [.bool f.nul, .bool f.eat, .bool f.fai] rfl rfl (Bl.news (Bl.new _ 37 _)) (by simp [Value.oneCell']) (by unfold maxLen; omega) (by omega) (by have := HB4.out.size; simp; omega) ?_; intro v5 w5 hown' hgrow _; have HO5 := Lib.hid hown'; have HG5 := Lib.hid (HG4.out.past.grown hgrow (fun g e => by obtain ⟨c, fz, hc⟩ := Lib.ownsRow_kind (ownsRow_grown HO4.out (one_new _ _)) g e; exact ⟨c, 37, fz, hc, by decide⟩)); have HB5 := Lib.hid ((bl_new HB4.out).grown hgrow (bl_new HB4.out).size (fun g e => (HO4.out.lt g e).1)); clear hown' hgrow))
      go_roundw
      case rel => exact ⟨k + 1, by omega, by go_num, by rw [HT.out]; exact HO5.out, HG5.out, HB5.out⟩
      case measure => simp [intOf]; omega
    · obtain rfl : k = ns.length := by omega
      have k1 : ¬ (ns.length : Int) < (ns.length : Int) := by omega
      rw [← hlen, List.take_length] at ho
      have HO := Lib.hid ho
      have HB := Lib.hid hb
      clear ho hb hg
      go_wp2
      go_ret
      exact ⟨ua, uc, by rw [hlen]; rfl, by rw [hlen] at HO ⊢; exact FactsAt.of_own' HO.out hlen (by unfold maxLen; omega), HB.out⟩
set_option maxHeartbeats 4000000 in
theorem rsame11_any (u v : Value) (l m : List Fc) (w : World) (hu : FactsAt w u l) (hv : FactsAt w v m) (hl : l.length ≤ 1000000) :
    Calls Try.prog 25 #[u, v] w fun e w' => e = .returned (.bool (decide (l = m))) ∧ ∃ q, w' = w.drewN q := by
  obtain ⟨ua, uc, rfl⟩ := hu.slice
  obtain ⟨va, vc, rfl⟩ := hv.slice
  by_cases hlen : l.length = m.length
  · have q1 : ((l.length : Int) != (m.length : Int)) = false := by rw [hlen]; simp
    go_enter Try.func25, Try.ntmps25
    go_wp2
    go_loopw [5] (fun c wr => ∃ (k q : Nat), k ≤ l.length ∧ c = .int .i64 k ∧ wr = w.drewN q ∧ l.take k = m.take k) (fun c _ => l.length - (intOf c).toNat)
    case atStart => exact ⟨0, 0, Nat.zero_le _, rfl, rfl, rfl⟩
    case round =>
      obtain ⟨k, q, hk, rfl, rfl, hq⟩ := hrel
      have HQ := Lib.hid hq
      clear hq
      by_cases hlt : k < l.length
      · obtain ⟨x, hx⟩ : ∃ x, l[k]? = some x := ⟨_, List.getElem?_eq_getElem hlt⟩
        obtain ⟨y, hy⟩ : ∃ y, m[k]? = some y := ⟨_, List.getElem?_eq_getElem (by omega)⟩
        obtain ⟨ab, ao, rfl, a0, a1, a2⟩ := hu.at hx
        obtain ⟨bb, bo, rfl, b0, b1, b2⟩ := hv.at hy
        have hlm : k < m.length := by omega
        have k1 : (k : Int) < (l.length : Int) := by omega
        have k2 : (k : Int) < (m.length : Int) := by omega
        have HX := Lib.hid hx
        have HY := Lib.hid hy
        have HL := Lib.hid hlen
        have HN := neqR x y
        clear hx hy hlen hu hv
        by_cases hxy : x = y
        · rw [decide_eq_true hxy] at HN
          go_wp2
          go_quiet (with_reducible refine gwpQuiet_agg BinOp.neq 37 _ _ _ rfl rfl _ _ rfl rfl gtR _ HN ?_)
          go_wp2
          go_roundw
          case rel => exact ⟨k + 1, _, by omega, by go_num, rfl, by rw [take_snoc' l k x HX.out, take_snoc' m k y HY.out, HQ.out, hxy]⟩
          case measure => simp [intOf]; omega
        · rw [decide_eq_false hxy] at HN
          have HN2 : Hid (decide (l = m) = false) := decN fun e => by
            have h1 := HX.out
            rw [e, HY.out] at h1
            exact hxy (Option.some.inj h1).symm
          go_wp2
          go_quiet (with_reducible refine gwpQuiet_agg BinOp.neq 37 _ _ _ rfl rfl _ _ rfl rfl gtR _ HN ?_)
          go_wp2
          go_ret
          exact ⟨ret_bool HN2.out.symm, _, World.drewN_drewN _ _ _⟩
      · have HN : Hid (decide (l = m) = true) := decY (by
          have hk' : k = l.length := by omega
          have h1 := HQ.out
          rw [List.take_of_length_le (by omega), List.take_of_length_le (by omega)] at h1
          exact h1)
        have k1 : ¬ (k : Int) < (l.length : Int) := by omega
        go_wp2
        go_ret
        exact ⟨ret_bool HN.out.symm, _, rfl⟩
  · have q1 : ((l.length : Int) != (m.length : Int)) = true := ibne_yes (by omega)
    have HN : Hid (decide (l = m) = false) := decN fun e => hlen (by rw [e])
    go_enter Try.func25, Try.ntmps25
    go_wp2
    go_ret
    exact ⟨ret_bool HN.out.symm, 0, rfl⟩
end Go.Proofs.Ytnfjbjmdempafaa
