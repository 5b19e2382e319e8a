/- The reference's holds. slices.Equal of bools; the reference's Of and Needs. The reference's Needs. -/
import Derived.Laws.OwnMore
import Derived.Test.YtnfjbjmdempafaaGreatDoorPkFM
import Derived.Test.YtnfjbjmdempafaaGreatDoorPkWN
import Derived.Test.YtnfjbjmdempafaaGreatDoorPkWF
import Derived.Test.YtnfjbjmdempafaaGreatDoorPkFlowROf
namespace Go.Proofs.YtnfjbjmdempafaaGreatDoor
open Go.RowKit
def okF (l : List Bool) (k : Int) : Bool := l.getD k.toNat false
theorem okF_at {l : List Bool} {i : Nat} {b : Bool} (h : l[i]? = some b) : okF l (i : Int) = b := by
  unfold okF
  rw [List.getD_eq_getElem?_getD, show ((i : Int)).toNat = i by omega, h]; rfl
/-- What holds says of a node. -/
def holdB (rs : List PR) (L : List Fc) (l : List Bool) (n : PN) : Bool := (needN rs L n).all (okF l) && !loopN L n
theorem holdB_call {rs : List PR} {L : List Fc} {l : List Bool} {n : PN} (h : n.op = 2) : holdB rs L l n = okF l (rootF rs n.rule) := by
  unfold holdB needN loopN
  rw [if_pos h, decide_eq_false (by omega)]; simp
theorem holdB_seq {rs : List PR} {L : List Fc} {l : List Bool} {n : PN} (h : n.op = 3) : holdB rs L l n = (seqNd L n.kids).all (okF l) := by
  unfold holdB needN loopN
  rw [if_neg (by omega), if_pos h, decide_eq_false (by omega)]; simp
theorem holdB_kids {rs : List PR} {L : List Fc} {l : List Bool} {n : PN} (h2 : n.op ≠ 2) (h3 : n.op ≠ 3) : holdB rs L l n = (n.kids.all (okF l) && !loopN L n) := by
  unfold holdB needN
  rw [if_neg h2, if_neg h3]
section
variable {rs : List PR} {ns : List PN} {L : List Fc} {l : List Bool} {n : PN} {i : Nat} {w : World} {rv nv fv ov : Value}
theorem kid_ok (hI : NodeIn rs ns.length n) (hl : l.length = ns.length) (hF : L.length = ns.length) {k : Nat} {x : Int} (hx : n.kids[k]? = some x) : ∃ j b f, x = ((j : Nat) : Int) ∧ l[j]? = some b ∧ okF l x = b ∧ L[j]? = some f ∧ atF L x = f ∧ j < ns.length := by
  obtain ⟨h0, h1⟩ := hI.kid x (List.mem_of_getElem? hx)
  obtain ⟨j, rfl⟩ : ∃ j : Nat, x = j := ⟨x.toNat, by omega⟩
  have hj : l[j]? = some l[j] := List.getElem?_eq_getElem (by omega)
  have hf : L[j]? = some L[j] := List.getElem?_eq_getElem (by omega)
  exact ⟨j, _, _, rfl, hj, okF_at hj, hf, atF_some hf, by omega⟩
set_option maxHeartbeats 4000000 in
set_option maxRecDepth 100000 in
theorem hold_call (hR : RulesIn w rv rs) (hN : NodesAt w nv ns) (hO : BoolsAt w ov l) (hl : l.length = ns.length) (hn : ns[i]? = some n) (hI : NodeIn rs ns.length n) (e2 : n.op = 2) :
    Calls Tryz.prog 22 #[.agg #[rv, nv], fv, ov, .int .i64 (i : Int)] w fun e w' => e = .returned (.bool (holdB rs L l n)) ∧ Below w.heap.size w w' := by
  obtain ⟨r, x, hr, hx, h0, h1⟩ := hI.root e2
  obtain ⟨j, hj⟩ : ∃ j : Nat, x.root = j := ⟨x.root.toNat, by omega⟩
  have hob : l[j]? = some l[j] := List.getElem?_eq_getElem (by omega)
  have HB := Lib.hid (show holdB rs L l n = l[j] by rw [holdB_call e2, hr, rootF_at hx, hj, okF_at hob])
  have hil := (List.getElem?_eq_some_iff.1 hn).1
  obtain ⟨-, na, nc, rfl, hna⟩ := hN
  rcases hna with h0 | ⟨nb, no, rfl, hca⟩
  · rw [h0] at hil; exact absurd hil (Nat.not_lt_zero _)
  obtain ⟨kv, c0, c1, c2, c3, c4, c5, c6, hki, -⟩ := hca i n hn
  have ln := lt_of_cell c0
  obtain ⟨ka, kc, rfl, -⟩ := hki
  obtain ⟨-, ra, rc, rfl, hra⟩ := hR
  have hrl := (List.getElem?_eq_some_iff.1 hx).1
  rcases hra with h | ⟨rb, ro, rfl, hcr⟩
  · rw [h] at hrl; exact absurd hrl (Nat.not_lt_zero _)
  obtain ⟨r0, r1⟩ := hcr r x hx
  have lr := lt_of_cell r0
  obtain ⟨oa, oc, rfl, -⟩ := id hO
  obtain ⟨ob, oo, rfl, o0⟩ := hO.cell hob
  have lo := lt_of_cell o0
  generalize l[j] = b at *
  rw [e2] at c0
  rw [hr] at c2
  rw [hj] at r1
  have k1 : (i : Int) < (ns.length : Int) := by omega
  have k2 : (r : Int) < (rs.length : Int) := by omega
  have k3 : (j : Int) < (l.length : Int) := by omega
  clear hO hI hca hcr hx hn hob
  go_enter Tryz.func22, Tryz.ntmps22
  go_wp2
  go_ret
  exact ⟨ret_bool HB.out.symm, two_new _ _ _⟩
/-- What the kids before k say. -/
def HeldK (L : List Fc) (l : List Bool) (ks : List Int) (k : Nat) : Prop := ∀ (j : Nat) (x : Int), j < k → ks[j]? = some x → (∀ m, m < j → ∀ y, ks[m]? = some y → (atF L y).nul = true) → okF l x = true
def nulsB (L : List Fc) (ks : List Int) (m : Nat) : Bool := (ks.take m).all fun y => (atF L y).nul
theorem nulsB_zero (L : List Fc) (ks : List Int) : nulsB L ks 0 = true := by unfold nulsB; simp
theorem nulsB_succ {L : List Fc} {ks : List Int} {m : Nat} {x : Int} (h : ks[m]? = some x) : nulsB L ks (m + 1) = (nulsB L ks m && (atF L x).nul) := by
  unfold nulsB; rw [List.take_add_one, h, List.all_append]; simp
theorem nulsB_iff {L : List Fc} {ks : List Int} {k : Nat} : nulsB L ks k = true ↔ ∀ m, m < k → ∀ y, ks[m]? = some y → (atF L y).nul = true := by
  unfold nulsB
  rw [List.all_eq_true]
  constructor
  · intro h m hm y hy
    exact h y (List.mem_of_getElem? (i := m) (by rw [List.getElem?_take, if_pos hm]; exact hy))
  · intro h y hy
    obtain ⟨m, hm⟩ := List.getElem?_of_mem hy
    rw [List.getElem?_take] at hm
    split at hm
    · exact h m (by assumption) y hm
    · cases hm
set_option maxHeartbeats 8000000 in
set_option maxRecDepth 100000 in
theorem hold_seq (hN : NodesAt w nv ns) (hF : FactsAt w fv L) (hFl : L.length = ns.length) (hO : BoolsAt w ov l) (hl : l.length = ns.length) (hn : ns[i]? = some n) (hI : NodeIn rs ns.length n) (hk6 : n.kids.length ≤ 1000000) (e3 : n.op = 3) (hrv : ∃ ra rc, rv = .slice ra rs.length rc) :
    Calls Tryz.prog 22 #[.agg #[rv, nv], fv, ov, .int .i64 (i : Int)] w fun e w' => e = .returned (.bool (holdB rs L l n)) ∧ Below w.heap.size w w' := by
  have HBS := Lib.hid (holdB_seq (rs := rs) (L := L) (l := l) e3)
  have HKO := Lib.hid (fun (k : Nat) (x : Int) (hx : n.kids[k]? = some x) => kid_ok hI hl hFl hx)
  have hil := (List.getElem?_eq_some_iff.1 hn).1
  obtain ⟨-, na, nc, rfl, hna⟩ := hN
  rcases hna with h0 | ⟨nb, no, rfl, hca⟩
  · rw [h0] at hil; exact absurd hil (Nat.not_lt_zero _)
  obtain ⟨kv, c0, c1, c2, c3, c4, c5, c6, hki, -⟩ := hca i n hn
  have ln := lt_of_cell c0
  obtain ⟨ka, kc, rfl, -⟩ := id hki
  obtain ⟨ra, rc, rfl⟩ := hrv
  obtain ⟨oa, oc, rfl, -⟩ := id hO
  obtain ⟨fa, fc, rfl⟩ := hF.slice
  rw [e3] at c0
  have k1 : (i : Int) < (ns.length : Int) := by omega
  have htwo := Lib.hid (two_new w (.cells #[.slice ra rs.length rc, .slice (some ⟨nb, no, none⟩) ns.length nc] 25) (.cells #[.int .i64 3, .slice ka n.kids.length kc, .int .i64 n.rule, .int .u64 n.s0, .int .u64 n.s1, .int .u64 n.s2, .int .u64 n.s3] 50))
  have HK := Lib.hid (fun (k : Nat) (x : Int) (hx : n.kids[k]? = some x) => hki.cell hx)
  have HOC := Lib.hid (fun (j : Nat) (b : Bool) (hx : l[j]? = some b) => hO.cell hx)
  have HFC := Lib.hid (fun (j : Nat) (f : Fc) (hx : L[j]? = some f) => hF.at hx)
  have HLL := Lib.hid (show l.length = L.length by omega)
  clear hI hca hO hF hn hki e3
  go_enter Tryz.func22, Tryz.ntmps22
  go_wp2
  generalize hW : World.alloc (World.alloc _ _) _ = W at *
  have hm1 : W.cell? ⟨w.heap.size + 1, 1, none⟩ = some (.slice ka n.kids.length kc) := by rw [← hW]; exact Bl.cell (o := 1) (Bl.new' (by simp)) rfl
  have lm : w.heap.size + 1 < W.heap.size := by rw [← hW]; simp
  clear hW
  go_loopw [10] (fun d wr => ∃ k : Nat, k ≤ n.kids.length ∧ d = .int .i64 (k : Int) ∧ wr = W ∧ HeldK L l n.kids k) (fun d _ => n.kids.length - (intOf d).toNat)
  case atStart => exact ⟨0, Nat.zero_le _, by first | rfl | trivial, by first | rfl | trivial, fun j x h => absurd h (Nat.not_lt_zero _)⟩
  case round =>
    obtain ⟨k, hk, rfl, hwr, hh⟩ := hrel
    obtain rfl := hwr.symm
    have HH := Lib.hid hh
    clear hh
    by_cases hlt : k < n.kids.length
    · have k2 : (k : Int) < (n.kids.length : Int) := by omega
      go_wp2
      go_loopw [11, 12] (fun v d wr => ∃ m : Nat, m ≤ k ∧ d = .int .i64 (m : Int) ∧ v = .bool (nulsB L n.kids m) ∧ wr = W) (fun _ d _ => k - (intOf d).toNat)
      case atStart => exact ⟨0, Nat.zero_le _, by first | rfl | trivial, by rw [nulsB_zero], by first | rfl | trivial⟩
      case round =>
        obtain ⟨m, hm, rfl, rfl, hwr⟩ := hrel
        obtain rfl := hwr.symm
        by_cases hmk : m < k
        · have m1 : (m : Int) < (k : Int) := by omega
          have m2 : (m : Int) < (n.kids.length : Int) := by omega
          obtain ⟨x, hx⟩ : ∃ x, n.kids[m]? = some x := ⟨_, List.getElem?_eq_getElem (by omega)⟩
          have HS := Lib.hid (nulsB_succ (L := L) hx)
          obtain ⟨j, b, f, rfl, hb, hob, hf, haf, hj⟩ := HKO.out m x hx
          obtain ⟨kb, ko, rfl, kx⟩ := HK.out m _ hx
          obtain ⟨fb, fo, rfl, f0, -, -⟩ := HFC.out j f hf
          have lk := lt_of_cell kx
          have lf := lt_of_cell f0
          rw [← (bcell htwo.out).1 _ _ lk] at kx
          rw [← (bcell htwo.out).1 _ _ lf] at f0
          have lk2 := lt_of_cell kx
          have lf2 := lt_of_cell f0
          have j1 : (j : Int) < (L.length : Int) := by omega
          have HAF := Lib.hid haf
          clear hx hob hb hf haf
          cases hnb : nulsB L n.kids m with
          | false =>
            go_wp2
            go_roundw
            case rel => exact ⟨m + 1, by omega, by go_num, by rw [HS.out, hnb]; rfl, by first | rfl | trivial⟩
            case measure => simp [intOf]; omega
          | true =>
            go_wp2
            go_roundw
            case rel => exact ⟨m + 1, by omega, by go_num, by rw [HS.out, hnb, HAF.out]; rfl, by first | rfl | trivial⟩
            case measure => simp [intOf]; omega
        · obtain rfl : m = k := by omega
          have m1 : ¬ (m : Int) < (m : Int) := by omega
          obtain ⟨x, hx⟩ : ∃ x, n.kids[m]? = some x := ⟨_, List.getElem?_eq_getElem hlt⟩
          obtain ⟨j, b, f, rfl, hb, hob, hf, haf, hj⟩ := HKO.out m x hx
          obtain ⟨kb, ko, rfl, kx⟩ := HK.out m _ hx
          obtain ⟨ob, oo, rfl, o0⟩ := HOC.out j b hb
          have lk := lt_of_cell kx
          have lo := lt_of_cell o0
          rw [← (bcell htwo.out).1 _ _ lk] at kx
          rw [← (bcell htwo.out).1 _ _ lo] at o0
          have lk2 := lt_of_cell kx
          have lo2 := lt_of_cell o0
          have j1 : (j : Int) < (l.length : Int) := by omega
          have HX := Lib.hid hx
          have HOB := Lib.hid hob
          clear hx hob hb hf haf
          cases hnb : nulsB L n.kids m with
          | false =>
            go_wp2
            refine ⟨⟨m + 1, by omega, by first | go_num | omega, fun j' x' h1 h2 h3 => ?_⟩, by simp [intOf]; omega⟩
            by_cases e : j' = m
            · subst e
              rw [nulsB_iff.2 h3] at hnb; cases hnb
            · exact HH.out j' x' (by omega) h2 h3
          | true =>
            cases hbb : b with
            | true =>
              rw [hbb] at o0
              go_wp2
              refine ⟨⟨m + 1, by omega, by first | go_num | omega, fun j' x' h1 h2 h3 => ?_⟩, by simp [intOf]; omega⟩
              by_cases e : j' = m
              · subst e
                have h4 := HX.out
                rw [h2] at h4
                rw [Option.some.inj h4, HOB.out, hbb]
              · exact HH.out j' x' (by omega) h2 h3
            | false =>
              rw [hbb] at o0
              go_wp2
              go_ret
              refine ⟨ret_bool ?_, htwo.out⟩
              rw [HBS.out]
              cases ha : (seqNd L n.kids).all (okF l) with
              | false => rfl
              | true =>
                rw [List.all_eq_true] at ha
                have := (seqNd_at L n.kids (okF l)).1 ha m _ HX.out (nulsB_iff.1 hnb)
                rw [HOB.out, hbb] at this; cases this
    · obtain rfl : k = n.kids.length := by omega
      have k2 : ¬ (n.kids.length : Int) < (n.kids.length : Int) := by omega
      go_wp2
      go_ret
      refine ⟨ret_bool ?_, htwo.out⟩
      rw [HBS.out, eq_comm, List.all_eq_true]
      exact (seqNd_at L n.kids (okF l)).2 fun j x hx hb => HH.out j x (List.getElem?_eq_some_iff.1 hx).1 hx hb
set_option maxHeartbeats 8000000 in
set_option maxRecDepth 100000 in
theorem hold_kids (hN : NodesAt w nv ns) (hF : FactsAt w fv L) (hFl : L.length = ns.length) (hO : BoolsAt w ov l) (hl : l.length = ns.length) (hn : ns[i]? = some n) (hI : NodeIn rs ns.length n) (hk6 : n.kids.length ≤ 1000000) (e2 : n.op ≠ 2) (e3 : n.op ≠ 3) (hrv : ∃ ra rc, rv = .slice ra rs.length rc) :
    Calls Tryz.prog 22 #[.agg #[rv, nv], fv, ov, .int .i64 (i : Int)] w fun e w' => e = .returned (.bool (holdB rs L l n)) ∧ Below w.heap.size w w' := by
  have HBS := Lib.hid (holdB_kids (rs := rs) (L := L) (l := l) e2 e3)
  have HKO := Lib.hid (fun (k : Nat) (x : Int) (hx : n.kids[k]? = some x) => kid_ok hI hl hFl hx)
  have hil := (List.getElem?_eq_some_iff.1 hn).1
  have H5 := Lib.hid hI.ok.one
  obtain ⟨-, na, nc, rfl, hna⟩ := hN
  rcases hna with h0 | ⟨nb, no, rfl, hca⟩
  · rw [h0] at hil; exact absurd hil (Nat.not_lt_zero _)
  obtain ⟨kv, c0, c1, c2, c3, c4, c5, c6, hki, -⟩ := hca i n hn
  have ln := lt_of_cell c0
  obtain ⟨ka, kc, rfl, -⟩ := id hki
  obtain ⟨ra, rc, rfl⟩ := hrv
  obtain ⟨oa, oc, rfl, -⟩ := id hO
  obtain ⟨fa, fc, rfl⟩ := hF.slice
  have q2 : (n.op == 2) = false := ibeq_no e2
  have q3 : (n.op == 3) = false := ibeq_no e3
  have k1 : (i : Int) < (ns.length : Int) := by omega
  have htwo := Lib.hid (two_new w (.cells #[.slice ra rs.length rc, .slice (some ⟨nb, no, none⟩) ns.length nc] 25) (.cells #[.int .i64 n.op, .slice ka n.kids.length kc, .int .i64 n.rule, .int .u64 n.s0, .int .u64 n.s1, .int .u64 n.s2, .int .u64 n.s3] 50))
  have HK := Lib.hid (fun (k : Nat) (x : Int) (hx : n.kids[k]? = some x) => hki.cell hx)
  have HOC := Lib.hid (fun (j : Nat) (b : Bool) (hx : l[j]? = some b) => hO.cell hx)
  have HFC := Lib.hid (fun (j : Nat) (f : Fc) (hx : L[j]? = some f) => hF.at hx)
  have HLL := Lib.hid (show l.length = L.length by omega)
  clear hI hca hO hF hn hki e2 e3
  go_enter Tryz.func22, Tryz.ntmps22
  go_wp2
  generalize hW : World.alloc (World.alloc _ _) _ = W at *
  have hm0 : W.cell? ⟨w.heap.size + 1, 0, none⟩ = some (.int .i64 n.op) := by rw [← hW]; exact Bl.cell (o := 0) (Bl.new' (by simp)) rfl
  have hm1 : W.cell? ⟨w.heap.size + 1, 1, none⟩ = some (.slice ka n.kids.length kc) := by rw [← hW]; exact Bl.cell (o := 1) (Bl.new' (by simp)) rfl
  have lm : w.heap.size + 1 < W.heap.size := by rw [← hW]; simp
  clear hW
  go_loopw [13] (fun d wr => ∃ k : Nat, k ≤ n.kids.length ∧ d = .int .i64 (k : Int) ∧ wr = W ∧ ∀ x, x ∈ n.kids.take k → okF l x = true) (fun d _ => n.kids.length - (intOf d).toNat)
  case atStart => exact ⟨0, Nat.zero_le _, by first | rfl | trivial, by first | rfl | trivial, fun x h => by simp at h⟩
  case round =>
    obtain ⟨k, hk, rfl, hwr, hh⟩ := hrel
    obtain rfl := hwr.symm
    have HH := Lib.hid hh
    clear hh
    by_cases hlt : k < n.kids.length
    · have k2 : (k : Int) < (n.kids.length : Int) := by omega
      obtain ⟨x, hx⟩ : ∃ x, n.kids[k]? = some x := ⟨_, List.getElem?_eq_getElem hlt⟩
      obtain ⟨j, b, f, rfl, hb, hob, hf, haf, hj⟩ := HKO.out k x hx
      obtain ⟨kb, ko, rfl, kx⟩ := HK.out k _ hx
      obtain ⟨ob, oo, rfl, o0⟩ := HOC.out j b hb
      have lk := lt_of_cell kx
      have lo := lt_of_cell o0
      rw [← (bcell htwo.out).1 _ _ lk] at kx
      rw [← (bcell htwo.out).1 _ _ lo] at o0
      have lk2 := lt_of_cell kx
      have lo2 := lt_of_cell o0
      have j1 : (j : Int) < (l.length : Int) := by omega
      have HX := Lib.hid hx
      have HOB := Lib.hid hob
      clear hx hob hb hf haf
      cases hbb : b with
      | true =>
        rw [hbb] at o0
        go_wp2
        go_roundw
        case rel =>
          refine ⟨k + 1, by omega, by go_num, by first | rfl | trivial, fun y hy => ?_⟩
          rw [List.take_add_one, HX.out, List.mem_append] at hy
          rcases hy with hy | hy
          · exact HH.out y hy
          · obtain rfl : y = (j : Int) := by simpa using hy
            rw [HOB.out, hbb]
        case measure => simp [intOf]; omega
      | false =>
        rw [hbb] at o0
        go_wp2
        go_ret
        refine ⟨ret_bool ?_, htwo.out⟩
        rw [HBS.out]
        cases ha : n.kids.all (okF l) with
        | false => rfl
        | true =>
          rw [List.all_eq_true] at ha
          have := ha _ (List.mem_of_getElem? HX.out)
          rw [HOB.out, hbb] at this; cases this
    · obtain rfl : k = n.kids.length := by omega
      have k2 : ¬ (n.kids.length : Int) < (n.kids.length : Int) := by omega
      rw [List.take_length] at HH
      have HA : Hid (n.kids.all (okF l) = true) := Lib.hid (List.all_eq_true.2 HH.out)
      by_cases e56 : n.op = 5 ∨ n.op = 6
      · obtain ⟨x, hx⟩ := H5.out (by omega)
        have hx0 : n.kids[0]? = some x := by rw [hx]; rfl
        obtain ⟨j, b, f, rfl, hb, hob, hf, haf, hj⟩ := HKO.out 0 x hx0
        obtain ⟨kb, ko, rfl, kx⟩ := HK.out 0 _ hx0
        obtain ⟨fb, fo, rfl, f0, -, -⟩ := HFC.out j f hf
        have lk := lt_of_cell kx
        have lf := lt_of_cell f0
        rw [← (bcell htwo.out).1 _ _ lk] at kx
        rw [← (bcell htwo.out).1 _ _ lf] at f0
        have lk2 := lt_of_cell kx
        have lf2 := lt_of_cell f0
        rw [Nat.add_zero] at kx
        have j1 : (j : Int) < (L.length : Int) := by omega
        have k3 : (0 : Int) < (n.kids.length : Int) := by rw [hx]; simp
        have HL5 : Hid (loopN L n = f.nul) := Lib.hid (by unfold loopN; rw [hx, decide_eq_true e56]; show (true && (atF L (j : Int)).nul) = _; rw [haf]; rfl)
        clear hob hb hf haf hx0 hx
        rcases e56 with e | e <;> rw [e] at hm0
        all_goals
          go_wp2
          go_ret
          refine ⟨ret_bool ?_, htwo.out⟩
          rw [HBS.out, HA.out, HL5.out]; rfl
      · have q5 : (n.op == 5) = false := ibeq_no (by omega)
        have q6 : (n.op == 6) = false := ibeq_no (by omega)
        have p5 : (n.op != 5) = true := by rw [bne, q5]; rfl
        have p6 : (n.op != 6) = true := by rw [bne, q6]; rfl
        have HL5 : Hid (loopN L n = false) := Lib.hid (by unfold loopN; rw [decide_eq_false e56]; rfl)
        go_wp2
        go_ret
        refine ⟨ret_bool ?_, htwo.out⟩
        rw [HBS.out, HA.out, HL5.out]; rfl
end
end Go.Proofs.YtnfjbjmdempafaaGreatDoor
namespace Go.Proofs.YtnfjbjmdempafaaGreatDoor
open Go.RowKit
set_option maxHeartbeats 4000000 in
theorem eqBools_any (u v : Value) (l m : List Bool) (w : World) (hl : l.length ≤ 1000000) (hu : BoolsAt w u l) (hv : BoolsAt w v m) :
    Calls Tryz.prog 7 #[u, v] w fun e w' => e = .returned (.bool (decide (l = m))) ∧ ∃ q, w' = w.drewN q := by
  obtain ⟨a, ca, rfl, ha⟩ := hu
  obtain ⟨b, cb, rfl, hb⟩ := hv
  by_cases hlen : l.length = m.length
  · have q1 : ((l.length : Int) != (m.length : Int)) = false := by rw [hlen]; simp
    go_enter Tryz.func7, Tryz.ntmps7
    go_wp2
    go_loopw [13] (fun c wr => ∃ (k q : Nat), k ≤ l.length ∧ c = .int .i64 k ∧ wr = w.drewN q ∧ l.take k = m.take k) (fun c _ => l.length - (intOf c).toNat)
    case atStart => exact ⟨0, 0, Nat.zero_le _, rfl, rfl, rfl⟩
    case round =>
      obtain ⟨k, q, hk, rfl, rfl, hq⟩ := hrel
      have HQ := Lib.hid hq
      clear hq
      by_cases hlt : k < l.length
      · obtain ⟨x, hx⟩ : ∃ x, l[k]? = some x := ⟨_, List.getElem?_eq_getElem hlt⟩
        obtain ⟨y, hy⟩ : ∃ y, m[k]? = some y := ⟨_, List.getElem?_eq_getElem (by omega)⟩
        rcases ha with h0 | ⟨ab, ao, rfl, hca⟩
        · rw [h0] at hlt; exact absurd hlt (Nat.not_lt_zero _)
        rcases hb with h0 | ⟨bb, bo, rfl, hcb⟩
        · rw [hlen, h0] at hlt; exact absurd hlt (Nat.not_lt_zero _)
        have c1 := hca k x hx
        have c2 := hcb k y hy
        have hlm : k < m.length := by omega
        have k1 : (k : Int) < (l.length : Int) := by omega
        have k2 : (k : Int) < (m.length : Int) := by omega
        have HX := Lib.hid hx
        have HY := Lib.hid hy
        have HL := Lib.hid hlen
        clear hca hcb hx hy hlen
        by_cases hxy : x = y
        · subst hxy
          cases x
          all_goals
            go_wp2
            go_quiet (fail)
            go_wp2
            go_roundw
            case rel => exact ⟨k + 1, _, by omega, by go_num, rfl, by rw [List.take_add_one, List.take_add_one, HX.out, HY.out, HQ.out]⟩
            case measure => simp [intOf]; omega
        · have HN : Hid (decide (l = m) = false) := decN fun e => by
            have h1 := HX.out
            rw [e, HY.out] at h1
            exact hxy (Option.some.inj h1).symm
          cases x <;> cases y <;> first | (exact absurd rfl hxy) | skip
          all_goals
            go_wp2
            go_quiet (fail)
            go_wp2
            go_ret
            exact ⟨ret_bool HN.out.symm, _, World.drewN_drewN _ _ _⟩
      · have HN : Hid (decide (l = m) = true) := decY (by
          have hk' : k = l.length := by omega
          have h1 := HQ.out
          rw [List.take_of_length_le (by omega), List.take_of_length_le (by omega)] at h1
          exact h1)
        have k1 : ¬ (k : Int) < (l.length : Int) := by omega
        go_wp2
        go_ret
        exact ⟨ret_bool HN.out.symm, _, rfl⟩
  · have q1 : ((l.length : Int) != (m.length : Int)) = true := ibne_yes (by omega)
    have HN : Hid (decide (l = m) = false) := decN fun e => hlen (by rw [e])
    go_enter Tryz.func7, Tryz.ntmps7
    go_wp2
    go_ret
    exact ⟨ret_bool HN.out.symm, 0, rfl⟩
def boolsV (l : List Bool) : List Value := l.map .bool
theorem BoolsAt.of_own {w : World} {base : Nat} {v : Value} {l : List Bool} (h : w.ownsRow base 4 1 v l.length (boolsV l)) : BoolsAt w v l := by
  have h' := h
  rcases h.2 with ⟨rfl, h0⟩ | ⟨g, cap, cur, rfl, -⟩
  · exact ⟨none, 0, by rw [h0], .inl (List.length_eq_zero_iff.1 h0)⟩
  · refine ⟨_, cap, rfl, .inr ⟨g, 0, rfl, fun i x hx => ?_⟩⟩
    have := h'.cells rfl i (.bool x) (by unfold boolsV; rw [List.getElem?_map, hx]; rfl)
    rw [Addr.add_lit] at this; exact this
theorem rholds_any (rv nv fv ov : Value) (rs : List PR) (ns : List PN) (L : List Fc) (l : List Bool) (i : Nat) (n : PN) (w : World) (hR : RulesIn w rv rs) (hN : NodesAt w nv ns) (hF : FactsAt w fv L) (hFl : L.length = ns.length) (hO : BoolsAt w ov l) (hl : l.length = ns.length) (hn : ns[i]? = some n) (hI : NodeIn rs ns.length n) (hk : n.kids.length ≤ 1000000) :
    Calls Tryz.prog 22 #[.agg #[rv, nv], fv, ov, .int .i64 (i : Int)] w fun e w' => e = .returned (.bool (holdB rs L l n)) ∧ Below w.heap.size w w' := by
  have hrv : ∃ ra rc, rv = .slice ra rs.length rc := by obtain ⟨-, ra, rc, h, -⟩ := hR; exact ⟨ra, rc, h⟩
  by_cases e2 : n.op = 2
  · exact hold_call hR hN hO hl hn hI e2
  · by_cases e3 : n.op = 3
    · exact hold_seq hN hF hFl hO hl hn hI hk e3 hrv
    · exact hold_kids hN hF hFl hO hl hn hI hk e2 e3 hrv
/-- Marks after k rounds. -/
def mkL (rs : List PR) (ns : List PN) (k : Nat) : List Bool := (List.range ns.length).map fun i => itG (needW rs ns (lfp rs ns)) (loopW ns (lfp rs ns)) k i
theorem mkL_len (rs : List PR) (ns : List PN) (k : Nat) : (mkL rs ns k).length = ns.length := by unfold mkL; rw [List.length_map, List.length_range]
theorem mkL_at {rs : List PR} {ns : List PN} {k i : Nat} (hi : i < ns.length) : (mkL rs ns k)[i]? = some (itG (needW rs ns (lfp rs ns)) (loopW ns (lfp rs ns)) k i) := by
  unfold mkL; rw [List.getElem?_map, List.getElem?_range hi]; rfl
theorem mkL_step {rs : List PR} {ns : List PN} {k i : Nat} {n : PN} (hn : ns[i]? = some n) (hI : NodeIn rs ns.length n) : holdB rs (lfp rs ns) (mkL rs ns k) n = itG (needW rs ns (lfp rs ns)) (loopW ns (lfp rs ns)) (k + 1) i := by
  unfold holdB
  show _ = ((needW rs ns (lfp rs ns) i).all _ && !loopW ns (lfp rs ns) i)
  rw [needW_at hn, loopW_at hn, List.all_map]
  congr 1
  rw [Bool.eq_iff_iff, List.all_eq_true, List.all_eq_true]
  have hk : ∀ x, x ∈ needN rs (lfp rs ns) n → okF (mkL rs ns k) x = (itG (needW rs ns (lfp rs ns)) (loopW ns (lfp rs ns)) k ∘ Int.toNat) x := fun x hx => by
    obtain ⟨h0, h1⟩ := needN_in hI hx
    obtain ⟨j, rfl⟩ : ∃ j : Nat, x = j := ⟨x.toNat, by omega⟩
    rw [okF_at (mkL_at (by omega))]
    show _ = itG _ _ k ((j : Int)).toNat
    rw [show ((j : Int)).toNat = j by omega]
  exact ⟨fun h x hx => by rw [← hk x hx]; exact h x hx, fun h x hx => by rw [hk x hx]; exact h x hx⟩
theorem boolsV_take {l : List Bool} {k : Nat} {b : Bool} (h : l[k]? = some b) : boolsV (l.take (k + 1)) = boolsV (l.take k) ++ [.bool b] := by
  unfold boolsV; rw [List.take_add_one, h, List.map_append]; rfl
def RofIs (l : List Bool) (w : World) (e : Ending) (w' : World) : Prop := ∃ a c, e = .returned (.slice a l.length c) ∧ BoolsAt w' (.slice a l.length c) l ∧ Below w.heap.size w w'
set_option maxHeartbeats 8000000 in
set_option maxRecDepth 100000 in
theorem r12of_any (rv nv : Value) (rs : List PR) (ns : List PN) (w : World) (hR : RulesIn w rv rs) (hN : NodesAt w nv ns) (hO : FlowOk rs ns) :
    Calls Tryz.prog 6 #[.agg #[rv, nv]] w (RofIs (mkL rs ns (ns.length + 1)) w) := by
  have hs := hO.nl
  obtain ⟨ii, hii, hz0, hz1, hz2⟩ := info_parts Tryz.infoBool
  have hmk := fun w => run_make_row' (P := Tryz.prog) 28 4 (.bool false) 1 Tryz.underlying28 Tryz.infoBool rfl .i64 .i64 ns.length (by omega) (by omega) w
  have hone := one_new w (.cells #[rv, nv] 25)
  have HF := Lib.hid (r11of_any rv nv rs ns _ (hR.kept hone (Nat.le_refl _)) (hN.kept hone (Nat.le_refl _)) hO)
  have HH := Lib.hid (fun (W : World) (fv ov : Value) (l : List Bool) (i : Nat) (n : PN) (hb : Below w.heap.size w W) (hf : FactsAt W fv (lfp rs ns)) (ho : BoolsAt W ov l) (hl : l.length = ns.length) (hn : ns[i]? = some n) => rholds_any rv nv fv ov rs ns (lfp rs ns) l i n W (hR.kept hb (Nat.le_refl _)) (hN.kept hb (Nat.le_refl _)) hf (lfp_length rs ns) ho hl hn (hO.ok n (List.mem_of_getElem? hn)) (by have := hO.kl n (List.mem_of_getElem? hn); omega))
  have HST := Lib.hid (fun (k i : Nat) (n : PN) (hn : ns[i]? = some n) => mkL_step (rs := rs) (k := k) hn (hO.ok n (List.mem_of_getElem? hn)))
  have HLF := Lib.hid (lfp_length rs ns)
  obtain ⟨-, ra, rc, rfl, -⟩ := id hR
  obtain ⟨-, na, nc, rfl, -⟩ := id hN
  have HG := Lib.hid (Bl.new w 25 #[.slice ra rs.length rc, .slice na ns.length nc])
  have HONE := Lib.hid hone
  unfold NewF at HF
  rw [HLF.out] at HF
  clear hR hN hO hone
  go_enter Tryz.func6, Tryz.ntmps6
  go_wp2_with (go_at_call 21; (with_reducible refine HF.out.mono ?_); rintro e w3 ⟨fa, fc, rfl, hf, hb⟩; have HB3 := Lib.hid (bl_on HONE.out hb); have HF3 := Lib.hid hf; have HG3 := Lib.hid (HG.out.below hb); have g1 : w3.cell? ⟨w.heap.size, 1, none⟩ = some (.slice na ns.length nc) := HG3.out.cell (o := 1) rfl; have lg := HG3.out.lt; clear hf hb)
  have HO4 : Hid (BoolsAt (w3.alloc (.cells (madeCells #[.bool false] ns.length) 4)) (.slice (some ⟨w3.heap.size, 0, none⟩) ns.length ns.length) (mkL rs ns 0)) := Lib.hid ⟨_, ns.length, by rw [mkL_len], .inr ⟨w3.heap.size, 0, rfl, fun i x hx => by
    have hi : i < ns.length := by have := (List.getElem?_eq_some_iff.1 hx).1; rwa [mkL_len] at this
    rw [mkL_at hi] at hx
    cases hx
    rw [Nat.zero_add]
    exact Bl.cell (Bl.new w3 4 _) (by simp [madeCells, hi, Nat.mod_one]; rfl)⟩⟩
  have HB4 := Lib.hid (bl_new (o := .cells (madeCells #[.bool false] ns.length) 4) HB3.out)
  have HF4 := Lib.hid (HF3.out.below (one_new w3 (.cells (madeCells #[.bool false] ns.length) 4)))
  have HG4 := Lib.hid (HG3.out.past (o := .cells (madeCells #[.bool false] ns.length) 4))
  clear g1 lg HB3 HF3 HG3 HF hmk HG HONE
  generalize World.alloc _ _ = W4 at *
  go_loopw [4, 5] (fun v c wr => ∃ r : Nat, r ≤ ns.length + 1 ∧ c = .int .i64 (r : Int) ∧ BoolsAt wr v (mkL rs ns r) ∧ Below W4.heap.size W4 wr) (fun _ c _ => ns.length + 1 - (intOf c).toNat)
  case atStart => exact ⟨0, Nat.zero_le _, rfl, HO4.out, Below.refl _ _⟩
  case round =>
    clear HO4
    obtain ⟨r, hr, rfl, ho, hb⟩ := hrel
    obtain ⟨va, vc, rfl, -⟩ := id ho
    have HO := Lib.hid ho
    have HB := Lib.hid hb
    have hg := HG4.out.below hb
    have g1 : wr.cell? ⟨w.heap.size, 1, none⟩ = some (.slice na ns.length nc) := hg.cell (o := 1) rfl
    have lg := hg.lt
    by_cases hlt : r ≤ ns.length
    · have k1 : (r : Int) ≤ (ns.length : Int) := by omega
      clear ho hb hg
      go_wp2
      clear g1 lg
      obtain ⟨w0, rfl⟩ : ∃ w0, w0 = wr := ⟨_, rfl⟩
      go_loopw [6, 7] (fun s c wx => ∃ k : Nat, k ≤ ns.length ∧ c = .int .i64 (k : Int) ∧ wx.ownsRow w0.heap.size 4 1 s k (boolsV ((mkL rs ns (r + 1)).take k)) ∧ Below w0.heap.size w0 wx) (fun _ c _ => ns.length - (intOf c).toNat)
      case atStart => exact ⟨0, Nat.zero_le _, rfl, World.ownsRow_nil _ _ _ _, Below.refl _ _⟩
      case round =>
        obtain ⟨k, hk, rfl, ho, hb2⟩ := hrel
        obtain ⟨sa, sc, rfl⟩ := own_slice' ho
        have hb4 := bl_on HB.out hb2
        have hg := HG4.out.below hb4
        have g0 : wr.cell? ⟨w.heap.size, 0, none⟩ = some (.slice ra rs.length rc) := hg.cell (o := 0) rfl
        have g1 : wr.cell? ⟨w.heap.size, 1, none⟩ = some (.slice na ns.length nc) := hg.cell (o := 1) rfl
        have lg := hg.lt
        have hz := HB.out.size
        by_cases hlk : k < ns.length
        · have k2 : (k : Int) < (ns.length : Int) := by omega
          obtain ⟨n, hn⟩ : ∃ n, ns[k]? = some n := ⟨_, List.getElem?_eq_getElem hlk⟩
          have HC := Lib.hid (HH.out wr _ _ _ k n (bl_on HB4.out hb4) (HF4.out.below hb4) (HO.out.kept hb2 (Nat.le_refl _)) (mkL_len rs ns r) hn)
          have hbb : (mkL rs ns (r + 1))[k]? = some (holdB rs (lfp rs ns) (mkL rs ns r) n) := by rw [HST.out r k n hn]; exact mkL_at hlk
          generalize holdB rs (lfp rs ns) (mkL rs ns r) n = b at *
          have HT := Lib.hid (boolsV_take hbb)
          have HOW := Lib.hid ho
          have HB2 := Lib.hid hb2
          clear hbb ho hb2 hb4 hg hn
          go_wp2_with (first
            | (go_at_call 22; (with_reducible refine HC.out.mono ?_); rintro e w5 ⟨rfl, hb⟩; have HB5 := Lib.hid (bl_on HB2.out hb); have HO5 := Lib.hid (ownsRow_grown HOW.out hb); clear hb)
            | (at_builtin; refine wpList_append_own _ rfl _ _ 28 rfl w0.heap.size 4 ii _ 1 1 Tryz.underlying28 hii hz0 hz1 hz2 rfl (by decide) _ k _ rfl (ownsRow_grown HO5.out (one_new _ _)) ⟨_, 0, none⟩ 1 1 [.bool b] rfl rfl (Bl.news (Bl.new _ 4 _)) (by simp [Value.oneCell']) (by unfold maxLen; omega) (by omega) (by have := HB5.out.size; simp; omega) ?_; intro v6 w6 hown' hgrow _; have HO6 := Lib.hid hown'; have HB6 := Lib.hid ((bl_new HB5.out).grown hgrow (bl_new HB5.out).size (fun g e => (HO5.out.lt g e).1)); clear hown' hgrow))
          go_roundw
          case rel => exact ⟨k + 1, by omega, by go_num, by rw [HT.out]; exact HO6.out, HB6.out⟩
          case measure => simp [intOf]; omega
        · obtain rfl : k = ns.length := by omega
          have k2 : ¬ (ns.length : Int) < (ns.length : Int) := by omega
          have hml := mkL_len rs ns (r + 1)
          have HOW : Hid (BoolsAt wr (.slice sa ns.length sc) (mkL rs ns (r + 1))) := Lib.hid (BoolsAt.of_own (base := w0.heap.size) (by rw [hml]; rw [List.take_of_length_le (by omega)] at ho; exact ho))
          have HB4' := Lib.hid hb4
          clear ho hb2 hb4 hg hml
          go_wp2
          exact ⟨⟨r + 1, by omega, by first | go_num | omega, HOW.out, HB4'.out⟩, by simp [intOf]; omega⟩
    · have k1 : ¬ (r : Int) ≤ (ns.length : Int) := by omega
      obtain rfl : r = ns.length + 1 := by omega
      clear ho hb hg
      go_wp2
      go_ret
      exact ⟨va, vc, rfl, HO.out, bl_on HB4.out HB.out⟩
end Go.Proofs.YtnfjbjmdempafaaGreatDoor
namespace Go.Proofs.YtnfjbjmdempafaaGreatDoor
open Go.RowKit
end Go.Proofs.YtnfjbjmdempafaaGreatDoor
