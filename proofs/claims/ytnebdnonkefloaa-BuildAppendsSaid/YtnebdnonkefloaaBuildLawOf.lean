/- The walk of the law BuildOf. -/
import Derived.Test.YtnebdnonkefloaaBuildROf
import Derived.Test.YtnebdnonkefloaaBuildRows
import Derived.Test.YtnebdnonkefloaaGramRSame
namespace Go.Proofs.Ytnebdnonkefloaa
open Go.RowKit
/-- The fixed examples come out. -/
def BuildAwake : Prop := ∀ W : World, Calls Try.prog 8 #[] W fun e w' => e = .returned (.bool true) ∧ Below W.heap.size W w'
theorem OfYes.at {rs : List PR} {ns : List PN} {w w' : World} {e : Ending} (h : OfYes rs ns w e w') (hr : rs.length ≤ maxLen) (hn : ns.length ≤ maxLen) (hk : ∀ n, n ∈ ns → n.kids.length ≤ maxLen) :
    ∃ ra rc na nc, e = .returned (.tuple #[.agg #[.slice ra rs.length rc, .slice na ns.length nc], .bool true]) ∧ RulesIn w' (.slice ra rs.length rc) rs ∧ NodesAt w' (.slice na ns.length nc) ns ∧ Below w.heap.size w w' := by
  obtain ⟨rv, nv, qs, h1, h2, h3, h4⟩ := h
  obtain ⟨ra, rc, rfl⟩ := own_slice' h2
  obtain ⟨na, nc, rfl⟩ := own_slice' h3.2.1
  exact ⟨ra, rc, na, nc, h1, RulesIn.of_own h2 hr, h3.nodes hn hk, h4⟩
/-- The kids of a node that was taken are fewer than the items. -/
theorem oneF_kids : ∀ (f : Nat) (ns : List PN) (l : List PI) (ns' : List PN) (l' : List PI) (b : Nat), l.length ≤ b → (∀ n, n ∈ ns → n.kids.length ≤ b) → oneF f ns l = some (ns', l') → ∀ n, n ∈ ns' → n.kids.length ≤ b
  | 0, _, _, _, _, _, _, _, h => by cases h
  | f + 1, ns, l, ns', l', b, hl, hn, h => by
    obtain ⟨g, x, r, n1, ks, hf, rfl, -, h2, rfl⟩ := oneF_inv h
    obtain rfl : f = g := by omega
    have key : ∀ (k : Nat) (ns : List PN) (l : List PI) (ks : List Int) (ns' : List PN) (l' : List PI) (ks' : List Int), l.length ≤ b → (∀ n, n ∈ ns → n.kids.length ≤ b) → kidsF (oneF f) k ns l ks = some (ns', l', ks') → ∀ n, n ∈ ns' → n.kids.length ≤ b := by
      intro k
      induction k with
      | zero =>
        intro ns l ks ns' l' ks' _ hn h
        rw [kidsF_zero] at h
        injection h with h
        injection h with h1 _
        subst h1
        exact hn
      | succ k ih =>
        intro ns l ks ns' l' ks' hl hn h
        obtain ⟨n1, l1, h1, h2⟩ := kidsF_inv h
        exact ih _ _ _ _ _ _ (by have := oneF_short h1; omega) (oneF_kids f _ _ _ _ b hl hn h1) h2
    rw [List.length_cons] at hl
    obtain ⟨d, m, hd, -, -, hk, hks⟩ := kidsF_cut (oneF_cut f) _ _ _ _ _ _ _ h2
    intro n hn'
    rcases List.mem_append.1 hn' with hn' | hn'
    · exact key _ _ _ _ _ _ _ (by omega) hn h2 n hn'
    · obtain rfl := List.mem_singleton.1 hn'
      show ks.length ≤ b
      have := congrArg List.length hd
      rw [List.length_append] at this
      simp at hks; omega
theorem ofL_kids : ∀ (l : List PQ) (ns : List PN) (rs : List PR) (rs' : List PR) (ns' : List PN) (b : Nat), (∀ q, q ∈ l → q.items.length ≤ b) → (∀ n, n ∈ ns → n.kids.length ≤ b) → ofL l ns rs = some (rs', ns') → ∀ n, n ∈ ns' → n.kids.length ≤ b
  | [], ns, rs, rs', ns', b, _, hn, h => by
    injection h with h
    injection h with _ h2
    subst h2
    exact hn
  | q :: t, ns, rs, rs', ns', b, hq, hn, h => by
    obtain ⟨n1, h1, h2⟩ := ofL_inv h
    exact ofL_kids t _ _ _ _ b (fun x hx => hq x (by simp [hx])) (oneF_kids _ _ _ _ _ b (hq q (by simp)) hn h1) h2
/-- The sizes of what Of returns for few items. -/
theorem ofL_few {l : List PQ} {rs : List PR} {ns : List PN} (hf : fewQ l = true) (h : ofL l [] [] = some (rs, ns)) : rs.length ≤ 30 ∧ ns.length ≤ 200 ∧ ∀ n, n ∈ ns → n.kids.length ≤ 200 := by
  obtain ⟨-, h2, h3⟩ := fewQ_yes hf
  obtain ⟨t, m, e1, e2, e3, e4⟩ := ofL_cut l _ _ _ _ h
  rw [List.nil_append] at e1 e2
  subst e1 e2
  have e5 : ns.length = sumI l := e4
  exact ⟨by omega, by omega, ofL_kids l _ _ _ _ 200 (fun q hq => by have := sumI_mem hq; omega) (fun n hn => by cases hn) h⟩
set_option maxHeartbeats 4000000 in
set_option maxRecDepth 100000 in
theorem lawOf_many (hA : BuildAwake) (v : Value) (l : List PQ) (w : World) (hl : l.length ≤ 140737488355328) (hi : ∀ q, q ∈ l → q.items.length ≤ 140737488355328) (hv : QsAt w v l) (hf : fewQ l = false) :
    Calls Try.prog 3 #[v] w fun e w' => e = .returned (.bool true) ∧ Below w.heap.size w w' := by
  obtain ⟨va, vc, rfl⟩ := hv.slice
  unfold BuildAwake at hA
  have HA := Lib.hid hA
  have HF := Lib.hid (fun (W : World) (hW : Below w.heap.size w W) => few6_any (.slice va l.length vc) l W hl hi (hv.kept hW (Nat.le_refl _)))
  rw [hf] at HF
  clear hA hi hv hf
  go_enter Try.func3, Try.ntmps3
  go_wp2_with (first
    | (go_at_call 8; (with_reducible refine (HA.out _).mono ?_); rintro e w2 ⟨rfl, hb⟩; first | (have HW2 := Lib.hid (HW.out.trans (hb.mono HW.out.size)); clear hb) | (have HW := Lib.hid hb; clear hb))
    | (go_at_call 9; (with_reducible refine (HF.out _ HW.out).mono ?_); rintro e w3 ⟨rfl, hw⟩; obtain rfl := hw.symm; clear hw))
  go_ret
  exact ⟨rfl, HW2.out⟩
theorem sub_q {l : List PQ} (hf : fewQ l = true) : (∀ q, q ∈ l → q.name.size ≤ 2000000) ∧ (∀ q, q ∈ l → q.items.length ≤ 200) ∧ l.length ≤ 30 ∧ sumI l ≤ 200 := by
  obtain ⟨h1, h2, h3⟩ := fewQ_yes hf
  exact ⟨fun q hq => by have := h1 q hq; omega, fun q hq => by have := sumI_mem hq; omega, h2, h3⟩
/-- The program's Of, whatever comes out. -/
theorem bof_any (lv : Value) (l : List PQ) (w : World) (hL : QsAt w lv l) (hl : l.length ≤ 1000000) (hnm : ∀ q, q ∈ l → q.name.size ≤ 2000000) (hbd : sumI l ≤ 1000000) : Calls Try.prog 10 #[lv] w (OfIs (ofL l [] []) w) := by
  have hit : ∀ q, q ∈ l → q.items.length ≤ 1000000 := fun q hq => by have := sumI_mem hq; omega
  by_cases hs : ∀ q, q ∈ l → singleL q.items 1 = true
  · obtain ⟨⟨rs, ns⟩, ho⟩ := ofL_all l [] [] hs
    rw [ho]
    exact of_yes lv l rs ns w hL hl hnm hbd hit hs ho
  · obtain ⟨q, hq, h1⟩ : ∃ q, q ∈ l ∧ singleL q.items 1 = false := by
      by_cases h : ∃ q, q ∈ l ∧ singleL q.items 1 = false
      · exact h
      · exact absurd (fun q hq => by
          cases hx : singleL q.items 1 with
          | true => rfl
          | false => exact absurd ⟨q, hq, hx⟩ h) hs
    rw [ofL_not l [] [] q hq h1]
    exact of_no lv l w hL hl hit q hq h1
def ofR (o : Option (List PR × List PN)) : List PR := (o.getD ([], [])).1
def ofN (o : Option (List PR × List PN)) : List PN := (o.getD ([], [])).2
theorem OfIs.flat {o : Option (List PR × List PN)} {w w' : World} {e : Ending} (h : OfIs o w e w') (hr : (ofR o).length ≤ maxLen) (hn : (ofN o).length ≤ maxLen) (hk : ∀ n, n ∈ ofN o → n.kids.length ≤ maxLen) :
    ∃ ra rc na nc, e = .returned (.tuple #[.agg #[.slice ra (ofR o).length rc, .slice na (ofN o).length nc], .bool o.isSome]) ∧ RulesIn w' (.slice ra (ofR o).length rc) (ofR o) ∧ NodesAt w' (.slice na (ofN o).length nc) (ofN o) ∧ Below w.heap.size w w' := by
  cases o with
  | none =>
    obtain ⟨h1, h2⟩ := h
    exact ⟨none, 0, none, 0, h1, ⟨Nat.zero_le _, none, 0, rfl, .inl rfl⟩, ⟨Nat.zero_le _, none, 0, rfl, .inl rfl⟩, h2⟩
  | some y => exact OfYes.at (rs := y.1) (ns := y.2) h hr hn hk
theorem ofFew {l : List PQ} (hf : fewQ l = true) : (ofR (ofL l [] [])).length ≤ 30 ∧ (ofN (ofL l [] [])).length ≤ 200 ∧ ∀ n, n ∈ ofN (ofL l [] []) → n.kids.length ≤ 200 := by
  cases ho : ofL l [] [] with
  | none => exact ⟨Nat.zero_le _, Nat.zero_le _, fun n hn => by cases hn⟩
  | some y => exact ofL_few hf ho
set_option maxHeartbeats 8000000 in
set_option maxRecDepth 100000 in
theorem lawOf_few (hA : BuildAwake) (v : Value) (l : List PQ) (w : World) (hv : QsAt w v l) (hf : fewQ l = true) :
    Calls Try.prog 3 #[v] w fun e w' => e = .returned (.bool true) ∧ Below w.heap.size w w' := by
  obtain ⟨hnm, hit, hl, hsum⟩ := sub_q hf
  obtain ⟨va, vc, rfl⟩ := hv.slice
  unfold BuildAwake at hA
  have HA := Lib.hid hA
  have HV := Lib.hid hv
  have HIT := Lib.hid hit
  have HNM := Lib.hid hnm
  have HFW := Lib.hid hf
  have HF := Lib.hid (fun (W : World) (hW : Below w.heap.size w W) => few6_any (.slice va l.length vc) l W (by omega) (fun q hq => by have := hit q hq; omega) (hv.kept hW (Nat.le_refl _)))
  rw [hf] at HF
  clear hA hv hf hit hnm
  go_enter Try.func3, Try.ntmps3
  go_wp2_with (first
    | (go_at_call 8; (with_reducible refine (HA.out _).mono ?_); rintro e w2 ⟨rfl, hb⟩; have HW := Lib.hid hb; clear hb)
    | (go_at_call 9; (with_reducible refine (HF.out _ HW.out).mono ?_); rintro e w3 ⟨rfl, hw⟩; obtain rfl := hw.symm; clear hw))
  go_loopw [3] (fun c wr => ∃ k : Nat, k ≤ l.length ∧ c = .int .i64 k ∧ wr = w2) (fun c _ => l.length - (intOf c).toNat)
  case atStart => exact ⟨0, Nat.zero_le _, rfl, rfl⟩
  case round =>
    obtain ⟨k, hk, rfl, rfl⟩ := hrel
    by_cases hlt : k < l.length
    · obtain ⟨q, hq⟩ : ∃ q, l[k]? = some q := ⟨_, List.getElem?_eq_getElem hlt⟩
      obtain ⟨b, off, ia, ic, rfl, c0, c1, ci⟩ := (HV.out.kept HW.out (Nat.le_refl _)).at hq
      have k1 : (k : Int) < (l.length : Int) := by omega
      have hql := HIT.out q (List.mem_of_getElem? hq)
      have HCI := Lib.hid ci
      clear ci c0 hq
      obtain ⟨wo, rfl⟩ : ∃ wo, wo = wr := ⟨_, rfl⟩
      go_wp2
      go_loopw [4] (fun c wi => ∃ j : Nat, j ≤ q.items.length ∧ c = .int .i64 j ∧ wi = wo) (fun c _ => q.items.length - (intOf c).toNat)
      case atStart => exact ⟨0, Nat.zero_le _, rfl, rfl⟩
      case round =>
        obtain ⟨j, hj, rfl, rfl⟩ := hrel
        by_cases hjl : j < q.items.length
        · obtain ⟨x, hx⟩ : ∃ x, q.items[j]? = some x := ⟨_, List.getElem?_eq_getElem hjl⟩
          obtain ⟨xb, xo, rfl, f0, f1, f2, f3, f4, f5, f6⟩ := HCI.out.at hx
          have j1 : (j : Int) < (q.items.length : Int) := by omega
          clear f0 f2 f3 f4 f5 f6 hx
          by_cases hbig : 1000 < x.kids
          · go_wp2
            go_ret
            exact ⟨rfl, HW.out⟩
          · go_wp2
            go_roundw
            case rel => exact ⟨j + 1, by omega, by go_num, trivial⟩
            case measure => simp [intOf]; omega
        · obtain rfl : j = q.items.length := by omega
          have j1 : ¬ (q.items.length : Int) < (q.items.length : Int) := by omega
          go_wp2
          go_roundw
          case rel => exact ⟨k + 1, by omega, by go_num, trivial⟩
          case measure => simp [intOf]; omega
    · obtain rfl : k = l.length := by omega
      have k1 : ¬ (l.length : Int) < (l.length : Int) := by omega
      have HR := Lib.hid (rules_any (.slice va l.length vc) l wr (by omega) (fun q hq => by have := HIT.out q hq; omega) (HV.out.kept HW.out (Nat.le_refl _)))
      unfold BackIs at HR
      obtain ⟨b1, b2, b3⟩ := ofFew HFW.out
      have HSZ := Lib.hid (⟨by unfold maxLen; omega, by unfold maxLen; omega, fun n hn => by have := b3 n hn; unfold maxLen; omega⟩ : (ofR (ofL l [] [])).length ≤ maxLen ∧ (ofN (ofL l [] [])).length ≤ maxLen ∧ ∀ n, n ∈ ofN (ofL l [] []) → n.kids.length ≤ maxLen)
      have hR1 : Hid (∀ (W : World), Below w.heap.size w W → Calls Try.prog 12 #[.slice va l.length vc] W (OfIs (ofL l [] []) W)) := Lib.hid (fun W hW => r6of_any (.slice va l.length vc) l W (HV.out.kept hW (Nat.le_refl _)) (by omega) (by omega))
      have hR2 : Hid (∀ (u : Value) (W : World), QsAt W u l → Calls Try.prog 10 #[u] W (OfIs (ofL l [] []) W)) := Lib.hid (fun u W hQ => bof_any u l W hQ (by omega) HNM.out (by omega))
      generalize ofL l [] [] = o at hR1 hR2 HSZ
      clear b1 b2 b3
      go_wp2_with (first
        | (go_at_call 11; (with_reducible refine HR.out.mono ?_); rintro e w3 ⟨u, vs, rfl, hq3, hb3⟩; have HQ3 := Lib.hid (hq3.qs (by unfold maxLen; omega) (fun q hq => by have := HIT.out q hq; unfold maxLen; omega)); obtain ⟨ua, uc, rfl⟩ := hq3.qs (by unfold maxLen; omega) (fun q hq => by have := HIT.out q hq; unfold maxLen; omega) |>.slice; have HW3 := Lib.hid (HW.out.trans (hb3.mono HW.out.size)); clear hq3 hb3)
        | (go_at_call 10; (with_reducible refine (hR2.out _ _ HQ3.out).mono ?_); intro e w4 hh; obtain ⟨ra, rc, na, nc, rfl, hg1, hg2, hb4⟩ := hh.flat HSZ.out.1 HSZ.out.2.1 HSZ.out.2.2; have HG1 := Lib.hid hg1; have HG2 := Lib.hid hg2; have HW4 := Lib.hid (HW3.out.trans (hb4.mono HW3.out.size)); clear hh hg1 hg2 hb4)
        | (go_at_call 12; (with_reducible refine (hR1.out _ (HW4.out.trans ((one_new _ _).mono HW4.out.size))).mono ?_); intro e w5 hh; obtain ⟨ta, tc, ma, mc, rfl, hg1, hg2, hb5⟩ := hh.flat HSZ.out.1 HSZ.out.2.1 HSZ.out.2.2; have hb6 := (one_new w4 (.cells #[.slice ra (ofR o).length rc, .slice na (ofN o).length nc] 36)).trans (hb5.mono (by simp)); have g0 := (bcell hb5).1 w4.heap.size 0 (by simp); have g1 := (bcell hb5).1 w4.heap.size 1 (by simp); simp at g0 g1; have gl : w4.heap.size < w5.heap.size := Nat.lt_of_lt_of_le (Bl.new w4 _ _).lt hb5.size; have HG3 := Lib.hid (HG1.out.kept hb6 (Nat.le_refl _)); have HG4 := Lib.hid (HG2.out.kept hb6 (Nat.le_refl _)); have HG5 := Lib.hid hg1; have HG6 := Lib.hid hg2; have HW5 := Lib.hid (HW4.out.trans (hb6.mono HW4.out.size)); clear hh hg1 hg2 hb5 hb6)
        | (go_at_call 13; (with_reducible refine (rsame_any _ _ _ _ _ _ _ _ _ (HG3.out.kept (one_new _ _) (Nat.le_refl _)) (HG4.out.kept (one_new _ _) (Nat.le_refl _)) (HG5.out.kept (one_new _ _) (Nat.le_refl _)) (HG6.out.kept (one_new _ _) (Nat.le_refl _))).mono ?_); rintro e w6 ⟨rfl, hb7⟩; have HW6 := Lib.hid (HW5.out.trans (((one_new _ _).trans (hb7.mono (one_new _ _).size)).mono HW5.out.size)); clear hb7))
      go_ret
      exact ⟨rfl, HW6.out⟩
theorem lawOf_any (hA : BuildAwake) (v : Value) (l : List PQ) (w : World) (hl : l.length ≤ 140737488355328) (hi : ∀ q, q ∈ l → q.items.length ≤ 140737488355328) (hv : QsAt w v l) :
    Calls Try.prog 3 #[v] w fun e w' => e = .returned (.bool true) ∧ Below w.heap.size w w' := by
  cases hf : fewQ l with
  | false => exact lawOf_many hA v l w hl hi hv hf
  | true => exact lawOf_few hA v l w hv hf
end Go.Proofs.Ytnebdnonkefloaa
