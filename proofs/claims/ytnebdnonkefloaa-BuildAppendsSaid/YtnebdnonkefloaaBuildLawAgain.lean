/- The walks of the laws BuildAgain and BuildInverse. -/
import Derived.Test.YtnebdnonkefloaaBuildLawOf
import Derived.Test.YtnebdnonkefloaaBuildItems
import Derived.Test.YtnebdnonkefloaaBuildRItems
import Derived.Test.YtnebdnonkefloaaGramTxt
namespace Go.Proofs.Ytnebdnonkefloaa
open Go.RowKit
theorem okB_is {c : Chk} (h : okB c = true) : c = .ok := by cases c <;> first | rfl | cases h
theorem names_of {l : List PQ} {rs : List PR} {ns : List PN} {b : Nat} (h : itemsR rs ns = l) (hl : ∀ q, q ∈ l → q.name.size ≤ b) : ∀ r, r ∈ rs → r.name.size ≤ b := fun r hr => by
  have : PQ.mk r.name (itL ns r.root) ∈ l := by rw [← h]; exact List.mem_map.2 ⟨r, hr, rfl⟩
  exact hl _ this
theorem roots_of {rs : List PR} {ns : List PN} (h : ordR ns rs (-1) = true) : ∀ r, r ∈ rs → 0 ≤ r.root ∧ r.root < ns.length := by
  have key : ∀ (t : List PR) (b : Int), -1 ≤ b → ordR ns t b = true → ∀ r, r ∈ t → 0 ≤ r.root ∧ r.root < ns.length := by
    intro t
    induction t with
    | nil => intro b _ _ r h; cases h
    | cons p t ih =>
      intro b hb ho r h
      obtain ⟨h1, h2, -, h4⟩ := ordR_cons ho
      rcases List.mem_cons.1 h with rfl | h
      · exact ⟨by omega, h2⟩
      · exact ih p.root (by omega) h4 r h
  exact key rs (-1) (by omega) h
theorem items_small {rs : List PR} {ns : List PN} (h : ordR ns rs (-1) = true) : ∀ q, q ∈ itemsR rs ns → q.items.length ≤ ns.length := fun q hq => by
  obtain ⟨r, hr, rfl⟩ := List.mem_map.1 hq
  obtain ⟨h1, h2⟩ := roots_of h r hr
  have h3 := itL_length (ordR_ex h) h1 h2
  have h4 := exL_lt ns r.root (ordR_ex h _ h1 h2)
  show (itL ns r.root).length ≤ ns.length
  omega
theorem Bck {tr ti : TypeId} {l : List PQ} {w : World} {e : Ending} {w' : World} (h : BackIs tr ti l w e w') (hl : l.length ≤ maxLen) (hi : ∀ q, q ∈ l → q.items.length ≤ maxLen) : ∃ a c, e = .returned (.slice a l.length c) ∧ QsAt w' (.slice a l.length c) l ∧ Below w.heap.size w w' := by
  obtain ⟨u, vs, rfl, hq, hb⟩ := h
  have hQ := hq.qs hl hi
  obtain ⟨a, c, rfl⟩ := hQ.slice
  exact ⟨a, c, rfl, hQ, hb⟩
set_option maxHeartbeats 8000000 in
set_option maxRecDepth 100000 in
theorem lawAgain_any (hA : BuildAwake) (v : Value) (l : List PQ) (w : World) (hl : l.length ≤ 140737488355328) (hi : ∀ q, q ∈ l → q.items.length ≤ 140737488355328) (hv : QsAt w v l) :
    Calls Try.prog 5 #[v] w fun e w' => e = .returned (.bool true) ∧ Below w.heap.size w w' := by
  obtain ⟨va, vc, rfl⟩ := hv.slice
  unfold BuildAwake at hA
  have HA := Lib.hid hA
  have HV := Lib.hid hv
  have HF := Lib.hid (fun (W : World) (hW : Below w.heap.size w W) => few6_any (.slice va l.length vc) l W hl hi (hv.kept hW (Nat.le_refl _)))
  cases hf : fewQ l with
  | false =>
    rw [hf] at HF
    clear hA hi hv hf
    go_enter Try.func5, Try.ntmps5
    go_wp2_with (first
      | (go_at_call 8; (with_reducible refine (HA.out _).mono ?_); rintro e w2 ⟨rfl, hb⟩; first | (have HW2 := Lib.hid (HW.out.trans (hb.mono HW.out.size)); clear hb) | (have HW := Lib.hid hb; clear hb))
      | (go_at_call 9; (with_reducible refine (HF.out _ HW.out).mono ?_); rintro e w3 ⟨rfl, hw⟩; obtain rfl := hw.symm; clear hw))
    go_ret
    exact ⟨rfl, HW2.out⟩
  | true =>
    rw [hf] at HF
    obtain ⟨hnm, hit, hll, hsum⟩ := sub_q hf
    have HR1 : Hid (∀ (W : World), Below w.heap.size w W → Calls Try.prog 12 #[.slice va l.length vc] W (OfIs (ofL l [] []) W)) := Lib.hid (fun W hW => r6of_any (.slice va l.length vc) l W (hv.kept hW (Nat.le_refl _)) (by omega) (by omega))
    have HFW := Lib.hid hf
    have HIT := Lib.hid hit
    have HNM := Lib.hid hnm
    clear hA hi hv hf hit hnm
    cases ho : ofL l [] [] with
    | none =>
      rw [ho] at HR1
      clear ho
      go_enter Try.func5, Try.ntmps5
      go_wp2_with (first
        | (go_at_call 8; (with_reducible refine (HA.out _).mono ?_); rintro e w2 ⟨rfl, hb⟩; have HW := Lib.hid hb; clear hb)
        | (go_at_call 9; (with_reducible refine (HF.out _ HW.out).mono ?_); rintro e w3 ⟨rfl, hw⟩; obtain rfl := hw.symm; clear hw)
        | (go_at_call 12; (with_reducible refine (HR1.out _ HW.out).mono ?_); rintro e w5 ⟨rfl, hb5⟩; have HW5 := Lib.hid (HW.out.trans (hb5.mono HW.out.size)); clear hb5))
      go_ret
      exact ⟨rfl, HW5.out.trans ((one_new _ _).mono HW5.out.size)⟩
    | some y =>
      obtain ⟨rs, ns⟩ := y
      obtain ⟨b1, b2, b3⟩ := ofL_few HFW.out ho
      have hItR := ofL_items ho
      have hnr := names_of hItR HNM.out
      rw [ho] at HR1
      have HY : Hid (∀ {w w' : World} {e : Ending}, OfIs (some (rs, ns)) w e w' → ∃ ra rc na nc, e = .returned (.tuple #[.agg #[.slice ra rs.length rc, .slice na ns.length nc], .bool true]) ∧ RulesIn w' (.slice ra rs.length rc) rs ∧ NodesAt w' (.slice na ns.length nc) ns ∧ Below w.heap.size w w') := Lib.hid (fun h => OfYes.at h (by unfold maxLen; omega) (by unfold maxLen; omega) (fun n hn => by have := b3 n hn; unfold maxLen; omega))
      clear ho
      cases hok : okB (chkL rs ns) with
      | false =>
        have HOK := Lib.hid hok
        have HNR := Lib.hid hnr
        clear hok hnr hItR b3
        go_enter Try.func5, Try.ntmps5
        go_wp2_with (first
          | (go_at_call 8; (with_reducible refine (HA.out _).mono ?_); rintro e w2 ⟨rfl, hb⟩; have HW := Lib.hid hb; clear hb)
          | (go_at_call 9; (with_reducible refine (HF.out _ HW.out).mono ?_); rintro e w3 ⟨rfl, hw⟩; obtain rfl := hw.symm; clear hw)
          | (go_at_call 12; (with_reducible refine (HR1.out _ HW.out).mono ?_); intro e w5 hh; obtain ⟨ra, rc, na, nc, rfl, hg1, hg2, hb5⟩ := HY.out hh; have HG1 := Lib.hid (hg1.kept (one_new w5 (.cells #[.slice ra rs.length rc, .slice na ns.length nc] 36)) (Nat.le_refl _)); have HG2 := Lib.hid (hg2.kept (one_new w5 (.cells #[.slice ra rs.length rc, .slice na ns.length nc] 36)) (Nat.le_refl _)); have HW5 := Lib.hid ((HW.out.trans (hb5.mono HW.out.size)).trans ((one_new w5 (.cells #[.slice ra rs.length rc, .slice na ns.length nc] 36)).mono (HW.out.trans (hb5.mono HW.out.size)).size)); clear hh hg1 hg2 hb5)
          | (go_at_call 19; have hva := valid_any _ _ rs ns _ HG1.out HG2.out HNR.out; rw [HOK.out] at hva; (with_reducible refine hva.mono ?_); clear hva; rintro e w6 ⟨rfl, hb6⟩; have HW6 := Lib.hid (HW5.out.trans (hb6.mono HW5.out.size)); clear hb6))
        go_ret
        exact ⟨rfl, HW6.out⟩
      | true =>
        have HOK := Lib.hid hok
        have HNR := Lib.hid hnr
        obtain ⟨-, -, -, -, -, hord, -⟩ := chkL_ok (okB_is hok)
        have HORD := Lib.hid hord
        have HIR := Lib.hid hItR
        have HSM := Lib.hid (fun q hq => HIT.out q hq)
        clear hok hnr hItR b3 hord
        go_enter Try.func5, Try.ntmps5
        go_wp2_with (first
          | (go_at_call 8; (with_reducible refine (HA.out _).mono ?_); rintro e w2 ⟨rfl, hb⟩; have HW := Lib.hid hb; clear hb)
          | (go_at_call 9; (with_reducible refine (HF.out _ HW.out).mono ?_); rintro e w3 ⟨rfl, hw⟩; obtain rfl := hw.symm; clear hw)
          | (go_at_call 12; (with_reducible refine (HR1.out _ HW.out).mono ?_); intro e w5 hh; obtain ⟨ra, rc, na, nc, rfl, hg1, hg2, hb5⟩ := HY.out hh; have HG1 := Lib.hid (hg1.kept (one_new w5 (.cells #[.slice ra rs.length rc, .slice na ns.length nc] 36)) (Nat.le_refl _)); have HG2 := Lib.hid (hg2.kept (one_new w5 (.cells #[.slice ra rs.length rc, .slice na ns.length nc] 36)) (Nat.le_refl _)); have HW5 := Lib.hid ((HW.out.trans (hb5.mono HW.out.size)).trans ((one_new w5 (.cells #[.slice ra rs.length rc, .slice na ns.length nc] 36)).mono (HW.out.trans (hb5.mono HW.out.size)).size)); clear hh hg1 hg2 hb5)
          | (go_at_call 19; have hva := valid_any _ _ rs ns _ HG1.out HG2.out HNR.out; rw [HOK.out] at hva; (with_reducible refine hva.mono ?_); clear hva; rintro e w6 ⟨rfl, hb6⟩; have g0 := (bcell hb6).1 w5.heap.size 0 (by simp); have g1 := (bcell hb6).1 w5.heap.size 1 (by simp); simp at g0 g1; have HG3 := Lib.hid (HG1.out.kept hb6 (Nat.le_refl _)); have HG4 := Lib.hid (HG2.out.kept hb6 (Nat.le_refl _)); have HW6 := Lib.hid (HW5.out.trans (hb6.mono HW5.out.size)); clear hb6)
          | (go_at_call 15; have hia := items_any _ _ rs ns _ HG3.out HG4.out (by omega) (by omega) HNR.out HORD.out; rw [HIR.out] at hia; (with_reducible refine hia.mono ?_); clear hia; intro e w7 hh; obtain ⟨ta, tc, rfl, hq7, hb7⟩ := Bck hh (by unfold maxLen; omega) (fun q hq => by have := HSM.out q hq; unfold maxLen; omega); have HQ7 := Lib.hid hq7; have HW7 := Lib.hid (HW6.out.trans (hb7.mono HW6.out.size)); clear hh hq7 hb7)
          | (go_at_call 17; (with_reducible refine (back_any _ l _ (by omega) (fun q hq => by have := HSM.out q hq; omega) HQ7.out).mono ?_); intro e w8 hh; obtain ⟨sa, sc, rfl, hq8, hb8⟩ := Bck hh (by unfold maxLen; omega) (fun q hq => by have := HSM.out q hq; unfold maxLen; omega); have HQ8 := Lib.hid hq8; have HW8 := Lib.hid (HW7.out.trans (hb8.mono HW7.out.size)); clear hh hq8 hb8)
          | (go_at_call 16; have hsa := same6_any _ _ l l _ (by omega) (fun q hq => by have := HSM.out q hq; omega) HQ8.out (HV.out.kept HW8.out (Nat.le_refl _)); rw [decide_eq_true rfl] at hsa; (with_reducible refine hsa.mono ?_); clear hsa; rintro e w9 ⟨rfl, hb9⟩; have HW9 := Lib.hid (HW8.out.trans (hb9.mono HW8.out.size)); clear hb9))
        go_ret
        exact ⟨rfl, HW9.out⟩
end Go.Proofs.Ytnebdnonkefloaa
