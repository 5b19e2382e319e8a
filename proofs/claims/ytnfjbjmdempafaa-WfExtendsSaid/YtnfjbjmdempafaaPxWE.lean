/- wf: the two grammars of the fixed examples. The text of the error of the fixed example. wf: the fixed examples. Written by wip/gen/wfaw.py. -/
import Derived.Deep.RegionHeld3
import Derived.BigQuiet
import Derived.Conc.MuLone
import Derived.Deep.QuietTactic
import Derived.Test.YtnfjbjmdempafaaPxGramEq
import Derived.Test.YtnfjbjmdempafaaPxWfChk
import Derived.Test.YtnfjbjmdempafaaPxWR
namespace Go.Proofs.Ytnfjbjmdempafaa
open Go.RowKit
def x12R : List PR := [⟨⟨#[65]⟩, 4⟩]
def x12N : List PN := [⟨2, [], 0, 0, 0, 0, 0⟩, ⟨1, [], 0, 1, 0, 0, 0⟩, ⟨3, [0, 1], 0, 0, 0, 0, 0⟩, ⟨1, [], 0, 2, 0, 0, 0⟩, ⟨4, [2, 3], 0, 0, 0, 0, 0⟩]
def x12L : List Fc := [⟨false, false, false⟩, ⟨false, true, true⟩, ⟨false, false, false⟩, ⟨false, true, true⟩, ⟨false, false, false⟩]
def y12R : List PR := [⟨⟨#[65]⟩, 2⟩]
def y12N : List PN := [⟨1, [], 0, 1, 0, 0, 0⟩, ⟨7, [0], 0, 0, 0, 0, 0⟩, ⟨5, [1], 0, 0, 0, 0, 0⟩]
def y12L : List Fc := [⟨false, true, true⟩, ⟨true, true, false⟩, ⟨false, true, false⟩]
theorem x12_lfp : lfp x12R x12N = x12L := by decide
theorem y12_lfp : lfp y12R y12N = y12L := by decide
theorem x12_wf : wfL x12R x12N = [false, true, false, true, false] := by unfold wfL; rw [x12_lfp]; decide
theorem y12_wf : wfL y12R y12N = [true, true, false] := by unfold wfL; rw [y12_lfp]; decide
theorem x12_bad : badL x12R x12N = [0, 2, 4] := by unfold badL; rw [x12_wf]; decide
theorem y12_loops : idxP (loopW y12N (lfp y12R y12N)) 3 = [2] := by rw [y12_lfp]; decide
theorem x12_needs : needN x12R (lfp x12R x12N) ⟨3, [0, 1], 0, 0, 0, 0, 0⟩ = [0] := by rw [x12_lfp]; decide
theorem x12_name : ruleNm x12R 0 = ⟨#[65]⟩ := rfl
theorem x12_up : RootsUp (-1) x12R := ⟨by decide, trivial⟩
theorem x12_own : ownL x12R ((0 : Nat) : Int) < x12R.length := by decide
theorem ok12 {rs : List PR} {ns : List PN} (h1 : ns.length ≤ 400) (h2 : ns.all (fun n => decide (n.kids.length ≤ 60) && decide (0 ≤ n.op) && decide (n.op ≤ 9) && (decide (n.op < 5) || decide (n.kids.length = 1)) && n.kids.all (fun k => decide (0 ≤ k) && decide (k < (ns.length : Int))) && (n.op != 2 || (match rs[n.rule.toNat]? with | some x => decide (0 ≤ n.rule) && decide (0 ≤ x.root) && decide (x.root < (ns.length : Int)) | none => false))) = true) : FlowOk rs ns := by
  rw [List.all_eq_true] at h2
  refine ⟨h1, fun n hn => ?_, fun n hn => ?_⟩
  · have := h2 n hn
    simp only [Bool.and_eq_true, decide_eq_true_eq] at this
    exact this.1.1.1.1.1
  · have := h2 n hn
    simp only [Bool.and_eq_true, Bool.or_eq_true, decide_eq_true_eq, List.all_eq_true] at this
    obtain ⟨⟨⟨⟨⟨-, a⟩, b⟩, c⟩, d⟩, e⟩ := this
    refine ⟨⟨a, b, fun h5 => ?_⟩, fun k hk => d k hk, fun e2 => ?_⟩
    · rcases c with c | c
      · omega
      · match hk : n.kids, c with
        | [k], _ => exact ⟨k, rfl⟩
    · rcases e with e | e
      · rw [e2] at e; simp at e
      · split at e
        · rename_i x hx
          simp only [Bool.and_eq_true, decide_eq_true_eq] at e
          exact ⟨n.rule.toNat, x, by omega, hx, e.1.2, e.2⟩
        · cases e
theorem x12_ok : FlowOk x12R x12N := ok12 (by decide) (by decide)
theorem y12_ok : FlowOk y12R y12N := ok12 (by decide) (by decide)
section
variable {W : World} {a b c d : Nat}
theorem x12_at (hA : Bl W a 48 #[.string ⟨#[65]⟩, .int .i64 4]) (hB : Bl W b 3 #[.int .i64 0, .int .i64 1]) (hC : Bl W c 3 #[.int .i64 2, .int .i64 3])
    (hD : Bl W d 35 #[.int .i64 2, .slice none 0 0, .int .i64 0, .int .u64 0, .int .u64 0, .int .u64 0, .int .u64 0, .int .i64 1, .slice none 0 0, .int .i64 0, .int .u64 1, .int .u64 0, .int .u64 0, .int .u64 0, .int .i64 3, .slice (some ⟨b, 0, none⟩) 2 2, .int .i64 0, .int .u64 0, .int .u64 0, .int .u64 0, .int .u64 0, .int .i64 1, .slice none 0 0, .int .i64 0, .int .u64 2, .int .u64 0, .int .u64 0, .int .u64 0, .int .i64 4, .slice (some ⟨c, 0, none⟩) 2 2, .int .i64 0, .int .u64 0, .int .u64 0, .int .u64 0, .int .u64 0]) :
    RulesIn W (.slice (some ⟨a, 0, none⟩) 1 1) x12R ∧ NodesAt W (.slice (some ⟨d, 0, none⟩) 5 5) x12N ∧ CapsAt W (.slice (some ⟨d, 0, none⟩) 5 5) x12N.length := by
  refine ⟨⟨by decide, _, _, rfl, .inr ⟨_, 0, rfl, fun i r hr => ?_⟩⟩, ⟨by decide, _, _, rfl, .inr ⟨_, 0, rfl, fun i r hr => ?_⟩⟩, fun b' off n' c' e i hi a' m' d' hc => ?_⟩
  · match i, hr with
    | 0, hr => obtain rfl := Option.some.inj hr; exact ⟨hA.cell (o := 0) rfl, hA.cell (o := 1) rfl⟩
    | i + 1, hr => simp [x12R] at hr
  · match i, hr with
    | 0, hr => obtain rfl := Option.some.inj hr; exact ⟨.slice none 0 0, hD.cell (o := 0) rfl, hD.cell (o := 1) rfl, hD.cell (o := 2) rfl, hD.cell (o := 3) rfl, hD.cell (o := 4) rfl, hD.cell (o := 5) rfl, hD.cell (o := 6) rfl, ⟨none, 0, rfl, .inl rfl⟩, by decide⟩
    | 1, hr => obtain rfl := Option.some.inj hr; exact ⟨.slice none 0 0, hD.cell (o := 7) rfl, hD.cell (o := 8) rfl, hD.cell (o := 9) rfl, hD.cell (o := 10) rfl, hD.cell (o := 11) rfl, hD.cell (o := 12) rfl, hD.cell (o := 13) rfl, ⟨none, 0, rfl, .inl rfl⟩, by decide⟩
    | 2, hr => obtain rfl := Option.some.inj hr; exact ⟨.slice (some ⟨b, 0, none⟩) 2 2, hD.cell (o := 14) rfl, hD.cell (o := 15) rfl, hD.cell (o := 16) rfl, hD.cell (o := 17) rfl, hD.cell (o := 18) rfl, hD.cell (o := 19) rfl, hD.cell (o := 20) rfl, ⟨_, 2, rfl, .inr ⟨_, 0, rfl, fun j x hx => by
        match j, hx with
        | 0, hx => obtain rfl := Option.some.inj hx; exact hB.cell (o := 0) rfl
        | 1, hx => obtain rfl := Option.some.inj hx; exact hB.cell (o := 1) rfl
        | j + 2, hx => simp at hx⟩⟩, by decide⟩
    | 3, hr => obtain rfl := Option.some.inj hr; exact ⟨.slice none 0 0, hD.cell (o := 21) rfl, hD.cell (o := 22) rfl, hD.cell (o := 23) rfl, hD.cell (o := 24) rfl, hD.cell (o := 25) rfl, hD.cell (o := 26) rfl, hD.cell (o := 27) rfl, ⟨none, 0, rfl, .inl rfl⟩, by decide⟩
    | 4, hr => obtain rfl := Option.some.inj hr; exact ⟨.slice (some ⟨c, 0, none⟩) 2 2, hD.cell (o := 28) rfl, hD.cell (o := 29) rfl, hD.cell (o := 30) rfl, hD.cell (o := 31) rfl, hD.cell (o := 32) rfl, hD.cell (o := 33) rfl, hD.cell (o := 34) rfl, ⟨_, 2, rfl, .inr ⟨_, 0, rfl, fun j x hx => by
        match j, hx with
        | 0, hx => obtain rfl := Option.some.inj hx; exact hC.cell (o := 0) rfl
        | 1, hx => obtain rfl := Option.some.inj hx; exact hC.cell (o := 1) rfl
        | j + 2, hx => simp at hx⟩⟩, by decide⟩
    | i + 5, hr => simp [x12N] at hr
  · injection e with e1 e2 e3
    cases e1
    match i, hi with
    | 0, _ => rw [hD.cell (o := 0 + 0 * 7 + 1) rfl] at hc; cases hc; decide
    | 1, _ => rw [hD.cell (o := 0 + 1 * 7 + 1) rfl] at hc; cases hc; decide
    | 2, _ => rw [hD.cell (o := 0 + 2 * 7 + 1) rfl] at hc; cases hc; decide
    | 3, _ => rw [hD.cell (o := 0 + 3 * 7 + 1) rfl] at hc; cases hc; decide
    | 4, _ => rw [hD.cell (o := 0 + 4 * 7 + 1) rfl] at hc; cases hc; decide
    | i + 5, h => exact absurd h (by simp [x12N])
theorem y12_at (hA : Bl W a 48 #[.string ⟨#[65]⟩, .int .i64 2]) (hB : Bl W b 3 #[.int .i64 0]) (hC : Bl W c 3 #[.int .i64 1])
    (hD : Bl W d 35 #[.int .i64 1, .slice none 0 0, .int .i64 0, .int .u64 1, .int .u64 0, .int .u64 0, .int .u64 0, .int .i64 7, .slice (some ⟨b, 0, none⟩) 1 1, .int .i64 0, .int .u64 0, .int .u64 0, .int .u64 0, .int .u64 0, .int .i64 5, .slice (some ⟨c, 0, none⟩) 1 1, .int .i64 0, .int .u64 0, .int .u64 0, .int .u64 0, .int .u64 0]) :
    RulesIn W (.slice (some ⟨a, 0, none⟩) 1 1) y12R ∧ NodesAt W (.slice (some ⟨d, 0, none⟩) 3 3) y12N ∧ CapsAt W (.slice (some ⟨d, 0, none⟩) 3 3) y12N.length := by
  refine ⟨⟨by decide, _, _, rfl, .inr ⟨_, 0, rfl, fun i r hr => ?_⟩⟩, ⟨by decide, _, _, rfl, .inr ⟨_, 0, rfl, fun i r hr => ?_⟩⟩, fun b' off n' c' e i hi a' m' d' hc => ?_⟩
  · match i, hr with
    | 0, hr => obtain rfl := Option.some.inj hr; exact ⟨hA.cell (o := 0) rfl, hA.cell (o := 1) rfl⟩
    | i + 1, hr => simp [y12R] at hr
  · match i, hr with
    | 0, hr => obtain rfl := Option.some.inj hr; exact ⟨.slice none 0 0, hD.cell (o := 0) rfl, hD.cell (o := 1) rfl, hD.cell (o := 2) rfl, hD.cell (o := 3) rfl, hD.cell (o := 4) rfl, hD.cell (o := 5) rfl, hD.cell (o := 6) rfl, ⟨none, 0, rfl, .inl rfl⟩, by decide⟩
    | 1, hr => obtain rfl := Option.some.inj hr; exact ⟨.slice (some ⟨b, 0, none⟩) 1 1, hD.cell (o := 7) rfl, hD.cell (o := 8) rfl, hD.cell (o := 9) rfl, hD.cell (o := 10) rfl, hD.cell (o := 11) rfl, hD.cell (o := 12) rfl, hD.cell (o := 13) rfl, ⟨_, 1, rfl, .inr ⟨_, 0, rfl, fun j x hx => by
        match j, hx with
        | 0, hx => obtain rfl := Option.some.inj hx; exact hB.cell (o := 0) rfl
        | j + 1, hx => simp at hx⟩⟩, by decide⟩
    | 2, hr => obtain rfl := Option.some.inj hr; exact ⟨.slice (some ⟨c, 0, none⟩) 1 1, hD.cell (o := 14) rfl, hD.cell (o := 15) rfl, hD.cell (o := 16) rfl, hD.cell (o := 17) rfl, hD.cell (o := 18) rfl, hD.cell (o := 19) rfl, hD.cell (o := 20) rfl, ⟨_, 1, rfl, .inr ⟨_, 0, rfl, fun j x hx => by
        match j, hx with
        | 0, hx => obtain rfl := Option.some.inj hx; exact hC.cell (o := 0) rfl
        | j + 1, hx => simp at hx⟩⟩, by decide⟩
    | i + 3, hr => simp [y12N] at hr
  · injection e with e1 e2 e3
    cases e1
    match i, hi with
    | 0, _ => rw [hD.cell (o := 0 + 0 * 7 + 1) rfl] at hc; cases hc; decide
    | 1, _ => rw [hD.cell (o := 0 + 1 * 7 + 1) rfl] at hc; cases hc; decide
    | 2, _ => rw [hD.cell (o := 0 + 2 * 7 + 1) rfl] at hc; cases hc; decide
    | i + 3, h => exact absurd h (by simp [y12N])
end
end Go.Proofs.Ytnfjbjmdempafaa
namespace Go.Proofs.Ytnfjbjmdempafaa
open Go.RowKit
theorem itoa_six (w : World) : Calls Try.prog 93 #[.int .i64 6] w fun ev w' => ev = .returned (.string ⟨#[54]⟩) ∧ w' = w := by
  go_enter Try.func93, Try.ntmps93
  go_wp2
  go_ret
  exact ⟨by kernel_rfl, rfl⟩
theorem code_six (w : World) : Calls Try.prog 92 #[.int .i64 6] w fun ev w' => ev = .returned (.string ⟨#[101, 114, 114, 111, 114, 32, 54]⟩) ∧ Below w.heap.size w w' := by
  go_enter Try.func92, Try.ntmps92
  go_wp2_with (go_at_call 93; (with_reducible refine (itoa_six _).mono ?_); rintro ev w1 ⟨rfl, rfl⟩)
  go_ret
  exact ⟨by kernel_rfl, by first | exact Below.refl _ _ | exact below_drewN (Below.refl _ _)⟩
theorem fault_six (p : Int) (w : World) : Calls Try.prog 112 #[.agg #[.int .i64 6, .int .i64 p]] w fun ev w' => ev = .returned (.string ⟨#[101, 114, 114, 111, 114, 32, 54]⟩) ∧ Below w.heap.size w w' := by
  have h0 := Lib.hid (one_new w (.cells #[.int .i64 6, .int .i64 p] 97))
  go_enter Try.func112, Try.ntmps112
  go_wp2_with (go_at_call 92; (with_reducible refine (code_six _).mono ?_); rintro ev w1 ⟨rfl, hb⟩; have HB := Lib.hid (bl_on h0.out hb); clear hb)
  go_ret
  exact ⟨rfl, HB.out⟩
theorem heldK6 {w W W1 : World} {b : Nat} {r : ByteArray} {x : Value} (hl : b < w.heap.size) (hb : Below W.heap.size W W1) (h : W.cell? ⟨b, 0, none⟩ = some (.string r) ∧ W.cell? ⟨b, 1, none⟩ = some x ∧ Below w.heap.size w W) :
    W1.cell? ⟨b, 0, none⟩ = some (.string r) ∧ W1.cell? ⟨b, 1, none⟩ = some x ∧ Below w.heap.size w W1 := by
  have hz := h.2.2.size
  exact ⟨by rw [(bcell hb).1 _ _ (by omega)]; exact h.1, by rw [(bcell hb).1 _ _ (by omega)]; exact h.2.1, h.2.2.trans (hb.mono hz)⟩
set_option maxHeartbeats 1000000 in
theorem within_six (b : Nat) (p : Int) (w : World) (h0 : w.cell? ⟨b, 0, none⟩ = some (.string ⟨#[65]⟩)) (h1 : w.cell? ⟨b, 1, none⟩ = some (.iface 97 (.agg #[.int .i64 6, .int .i64 p]))) :
    Calls Try.prog 111 #[.pointer (some ⟨b, 0, none⟩)] w fun ev w' => ev = .returned (.string ⟨#[114, 117, 108, 101, 32, 65, 58, 32, 101, 114, 114, 111, 114, 32, 54]⟩) ∧ Below w.heap.size w w' := by
  have hl := lt_of_cell h0
  go_enter Try.func111, Try.ntmps111
  go_wp2
  have hS : w.drew.cell? ⟨b, 0, none⟩ = some (.string ⟨#[65]⟩) ∧ w.drew.cell? ⟨b, 1, none⟩ = some (.iface 97 (.agg #[.int .i64 6, .int .i64 p])) ∧ Below w.heap.size w w.drew := ⟨by simpa using h0, by simpa using h1, (Below.refl _ _).drew⟩
  clear h0 h1
  go_region_held3 (fun W => W.cell? ⟨b, 0, none⟩ = some (.string ⟨#[65]⟩) ∧ W.cell? ⟨b, 1, none⟩ = some (.iface 97 (.agg #[.int .i64 6, .int .i64 p])) ∧ Below w.heap.size w W) (first | exact hS)
    (first | (go_at_call 112; (with_reducible refine (fault_six p _).mono ?_); rintro ev w3 ⟨rfl, hb⟩; replace hS := heldK6 hl hb hS; clear hb))
  go_wp2
  go_ret
  exact ⟨by kernel_rfl, hS.2.2⟩
end Go.Proofs.Ytnfjbjmdempafaa
namespace Go.Proofs.Ytnfjbjmdempafaa
open Go.RowKit
theorem m_error12 (v : Value) (w : World) : (Go.method 254 91 v "Error").run Try.prog w = .ok (111, v) w := by kernel_rfl
theorem five_new (w : World) (a b c d e : Obj) : Below w.heap.size w (((((w.alloc a).alloc b).alloc c).alloc d).alloc e) := bl_new (four_new w a b c d)
theorem eqB_same (u v : Value) (l : List Bool) (w : World) (hl : l.length ≤ 1000000) (hu : BoolsAt w u l) (hv : BoolsAt w v l) : Calls Try.prog 19 #[u, v] w fun e w' => e = .returned (.bool true) ∧ Below w.heap.size w w' :=
  (eqBools_any u v l l w hl hu hv).mono fun e w' ⟨h1, q, h2⟩ => ⟨by rw [h1, decide_eq_true rfl], by rw [h2]; exact below_drewN (Below.refl _ _)⟩
theorem eqI_same (u v : Value) (l : List Int) (w : World) (hl : l.length ≤ maxLen) (hu : IntsAt w u l) (hv : IntsAt w v l) : Calls Try.prog 11 #[u, v] w fun e w' => e = .returned (.bool true) ∧ Below w.heap.size w w' :=
  (intsEq_any u v l l w hl hu hv).mono fun e w' ⟨h1, q, h2⟩ => ⟨by rw [h1, decide_eq_true rfl], by rw [h2]; exact below_drewN (Below.refl _ _)⟩
theorem bools_lit (w : World) (l : List Bool) (cs : Array Value) (n : Nat) (h : cs = (boolsV l).toArray) (hn : n = l.length) : BoolsAt (w.alloc (.cells cs 4)) (.slice (some ⟨w.heap.size, 0, none⟩) n n) l := by
  subst h hn
  refine ⟨_, _, rfl, .inr ⟨_, 0, rfl, fun i x hx => ?_⟩⟩
  rw [Nat.zero_add]
  exact (Bl.new w 4 _).cell (by rw [List.getElem?_toArray]; unfold boolsV; rw [List.getElem?_map, hx]; rfl)
theorem ints_lit (w : World) (l : List Int) (cs : Array Value) (n : Nat) (h : cs = (intsV l).toArray) (hn : n = l.length) : IntsAt (w.alloc (.cells cs 3)) (.slice (some ⟨w.heap.size, 0, none⟩) n n) l := by
  subst h hn
  refine ⟨_, _, rfl, .inr ⟨_, 0, rfl, fun i x hx => ?_⟩⟩
  rw [Nat.zero_add]
  exact (Bl.new w 3 _).cell (by rw [List.getElem?_toArray]; unfold intsV; rw [List.getElem?_map, hx]; rfl)
set_option maxHeartbeats 8000000 in
set_option maxRecDepth 100000 in
theorem awake12_any (w : World) : Calls Try.prog 7 #[] w fun e w' => e = .returned (.bool true) ∧ Below w.heap.size w w' := by
  go_enter Try.func7, Try.ntmps7
  go_upto_region 3 with (fail)
  generalize hW1 : World.alloc (World.alloc (World.alloc (World.alloc (World.alloc w _) _) _) _) _ = W1
  have hz : W1.heap.size = w.heap.size + 1 + 1 + 1 + 1 + 1 := by rw [← hW1]; simp
  have hB1 : Below w.heap.size w W1 := by rw [← hW1]; exact five_new _ _ _ _ _ _
  have b0 : Bl W1 (w.heap.size) 48 #[.string ⟨#[65]⟩, .int .i64 4] := by rw [← hW1]; exact Bl.past (Bl.past (Bl.past (Bl.past (Bl.new' (by simp)))))
  have b1 : Bl W1 (w.heap.size + 1) 3 #[.int .i64 0, .int .i64 1] := by rw [← hW1]; exact Bl.past (Bl.past (Bl.past (Bl.new' (by simp))))
  have b2 : Bl W1 (w.heap.size + 1 + 1) 3 #[.int .i64 2, .int .i64 3] := by rw [← hW1]; exact Bl.past (Bl.past (Bl.new' (by simp)))
  have b3 : Bl W1 (w.heap.size + 1 + 1 + 1) 35 #[.int .i64 2, .slice none 0 0, .int .i64 0, .int .u64 0, .int .u64 0, .int .u64 0, .int .u64 0, .int .i64 1, .slice none 0 0, .int .i64 0, .int .u64 1, .int .u64 0, .int .u64 0, .int .u64 0, .int .i64 3, .slice (some ⟨w.heap.size + 1, 0, none⟩) 2 2, .int .i64 0, .int .u64 0, .int .u64 0, .int .u64 0, .int .u64 0, .int .i64 1, .slice none 0 0, .int .i64 0, .int .u64 2, .int .u64 0, .int .u64 0, .int .u64 0, .int .i64 4, .slice (some ⟨w.heap.size + 1 + 1, 0, none⟩) 2 2, .int .i64 0, .int .u64 0, .int .u64 0, .int .u64 0, .int .u64 0] := by rw [← hW1]; exact Bl.past (Bl.new' (by simp))
  have b4 : Bl W1 (w.heap.size + 1 + 1 + 1 + 1) 25 #[.slice (some ⟨w.heap.size, 0, none⟩) 1 1, .slice (some ⟨w.heap.size + 1 + 1 + 1, 0, none⟩) 5 5] := by rw [← hW1]; exact Bl.new' (by simp)
  clear hW1
  generalize hW : World.alloc (World.alloc (World.alloc (World.alloc (World.alloc W1 _) _) _) _) _ = W
  have hB2 : Below W1.heap.size W1 W := by rw [← hW]; exact five_new _ _ _ _ _ _
  have b5 : Bl W (w.heap.size + 1 + 1 + 1 + 1 + 1) 48 #[.string ⟨#[65]⟩, .int .i64 2] := by rw [← hW]; exact Bl.past (Bl.past (Bl.past (Bl.past (Bl.new' (by simp [hz])))))
  have b6 : Bl W (w.heap.size + 1 + 1 + 1 + 1 + 1 + 1) 3 #[.int .i64 0] := by rw [← hW]; exact Bl.past (Bl.past (Bl.past (Bl.new' (by simp [hz]))))
  have b7 : Bl W (w.heap.size + 1 + 1 + 1 + 1 + 1 + 1 + 1) 3 #[.int .i64 1] := by rw [← hW]; exact Bl.past (Bl.past (Bl.new' (by simp [hz])))
  have b8 : Bl W (w.heap.size + 1 + 1 + 1 + 1 + 1 + 1 + 1 + 1) 35 #[.int .i64 1, .slice none 0 0, .int .i64 0, .int .u64 1, .int .u64 0, .int .u64 0, .int .u64 0, .int .i64 7, .slice (some ⟨w.heap.size + 1 + 1 + 1 + 1 + 1 + 1, 0, none⟩) 1 1, .int .i64 0, .int .u64 0, .int .u64 0, .int .u64 0, .int .u64 0, .int .i64 5, .slice (some ⟨w.heap.size + 1 + 1 + 1 + 1 + 1 + 1 + 1, 0, none⟩) 1 1, .int .i64 0, .int .u64 0, .int .u64 0, .int .u64 0, .int .u64 0] := by rw [← hW]; exact Bl.past (Bl.new' (by simp [hz]))
  have b9 : Bl W (w.heap.size + 1 + 1 + 1 + 1 + 1 + 1 + 1 + 1 + 1) 25 #[.slice (some ⟨w.heap.size + 1 + 1 + 1 + 1 + 1, 0, none⟩) 1 1, .slice (some ⟨w.heap.size + 1 + 1 + 1 + 1 + 1 + 1 + 1 + 1, 0, none⟩) 3 3] := by rw [← hW]; exact Bl.new' (by simp [hz])
  clear hW
  obtain ⟨xr, xn, xc⟩ := x12_at (b0.below hB2) (b1.below hB2) (b2.below hB2) (b3.below hB2)
  obtain ⟨yr, yn, yc⟩ := y12_at b5 b6 b7 b8
  have HE := Lib.hid (b4.below hB2)
  have HE2 := Lib.hid b9
  have HB := Lib.hid (bl_on hB1 hB2)
  have HChk := Lib.hid (fun (V : World) (hb : Below W.heap.size W V) => wcheck_yes _ _ x12R x12N 0 [2, 4] V (xr.kept hb (Nat.le_refl _)) (xn.kept hb (Nat.le_refl _)) (xc.kept xn rfl hb) x12_ok x12_bad x12_up (by decide) (by simp [x12R]; decide) x12_own)
  have HOfX := Lib.hid (fun (V : World) (hb : Below W.heap.size W V) => wof_any _ _ x12R x12N V (xr.kept hb (Nat.le_refl _)) (xn.kept hb (Nat.le_refl _)) (xc.kept xn rfl hb) x12_ok)
  have HCnt := Lib.hid (fun (V : World) (hb : Below W.heap.size W V) => wcount_any _ _ x12R x12N V (xr.kept hb (Nat.le_refl _)) (xn.kept hb (Nat.le_refl _)) (xc.kept xn rfl hb) x12_ok)
  have HLp := Lib.hid (fun (V : World) (hb : Below W.heap.size W V) => wloops_any _ _ y12R y12N V (yr.kept hb (Nat.le_refl _)) (yn.kept hb (Nat.le_refl _)) y12_ok)
  have HOfY := Lib.hid (fun (V : World) (hb : Below W.heap.size W V) => wof_any _ _ y12R y12N V (yr.kept hb (Nat.le_refl _)) (yn.kept hb (Nat.le_refl _)) (yc.kept yn rfl hb) y12_ok)
  have HNd := Lib.hid (fun (V : World) (hb : Below W.heap.size W V) => wneedsF_any _ _ x12R x12N 2 ⟨3, [0, 1], 0, 0, 0, 0, 0⟩ V (xr.kept hb (Nat.le_refl _)) (xn.kept hb (Nat.le_refl _)) (xc.kept xn rfl hb) x12_ok rfl)
  rw [x12_name] at HChk
  unfold ChkErr at HChk
  unfold OfIs at HOfX HOfY
  rw [x12_wf, show x12N.length = 5 from rfl] at HOfX
  rw [y12_wf, show y12N.length = 3 from rfl] at HOfY
  rw [x12_bad, show ((([0, 2, 4] : List Int).length : Nat) : Int) = 3 from rfl] at HCnt
  rw [show y12N.length = 3 from rfl, y12_loops] at HLp
  unfold RowIs at HLp
  rw [show ([2] : List Int).length = 1 from rfl] at HLp
  rw [x12_needs] at HNd
  unfold NeedIs at HNd
  rw [show ([0] : List Int).length = 1 from rfl] at HNd
  have HBc := Lib.hid (Below.refl W.heap.size W)
  clear hz hB1 hB2 b0 b1 b2 b3 b4 b5 b6 b7 b8 b9 xr xn xc yr yn yc
  generalize w.heap.size + 1 + 1 + 1 + 1 + 1 + 1 + 1 + 1 + 1 = E2 at *
  generalize w.heap.size + 1 + 1 + 1 + 1 + 1 + 1 + 1 + 1 = n8 at *
  generalize w.heap.size + 1 + 1 + 1 + 1 + 1 = r5 at *
  generalize w.heap.size + 1 + 1 + 1 + 1 = E1 at *
  generalize w.heap.size + 1 + 1 + 1 = n3 at *
  have mE := m_error12
  have k0 : W.cell? ⟨E1, 0, none⟩ = some (.slice (some ⟨w.heap.size, 0, none⟩) 1 1) := (HE.out.below HBc.out).cell (o := 0) rfl; have k1 : W.cell? ⟨E1, 1, none⟩ = some (.slice (some ⟨n3, 0, none⟩) 5 5) := (HE.out.below HBc.out).cell (o := 1) rfl; have j0 : W.cell? ⟨E2, 0, none⟩ = some (.slice (some ⟨r5, 0, none⟩) 1 1) := (HE2.out.below HBc.out).cell (o := 0) rfl; have j1 : W.cell? ⟨E2, 1, none⟩ = some (.slice (some ⟨n8, 0, none⟩) 3 3) := (HE2.out.below HBc.out).cell (o := 1) rfl; have lk := (HE.out.below HBc.out).lt; have lj := (HE2.out.below HBc.out).lt
  go_wp2_with (first
    | (go_at_call 20; (with_reducible refine (HChk.out _ HBc.out).mono ?_); rintro e w1 ⟨⟨eb, rfl, er0, er1⟩, hb⟩; have HBc := Lib.hid (bl_on HBc.out hb); have HER := Lib.hid (And.intro er0 er1); have ler := lt_of_cell er0; clear er0 er1 hb; have k0 : w1.cell? ⟨E1, 0, none⟩ = some (.slice (some ⟨w.heap.size, 0, none⟩) 1 1) := (HE.out.below HBc.out).cell (o := 0) rfl; have k1 : w1.cell? ⟨E1, 1, none⟩ = some (.slice (some ⟨n3, 0, none⟩) 5 5) := (HE.out.below HBc.out).cell (o := 1) rfl; have j0 : w1.cell? ⟨E2, 0, none⟩ = some (.slice (some ⟨r5, 0, none⟩) 1 1) := (HE2.out.below HBc.out).cell (o := 0) rfl; have j1 : w1.cell? ⟨E2, 1, none⟩ = some (.slice (some ⟨n8, 0, none⟩) 3 3) := (HE2.out.below HBc.out).cell (o := 1) rfl; have lk := (HE.out.below HBc.out).lt; have lj := (HE2.out.below HBc.out).lt)
    | (go_at_call 15; (with_reducible refine (HOfX.out _ HBc.out).mono ?_); rintro e w2 ⟨rfl, hm, hb⟩; have HBc := Lib.hid (bl_on HBc.out hb); have HM := Lib.hid hm; have HER2 := Lib.hid (show w2.cell? ⟨eb, 0, none⟩ = _ ∧ w2.cell? ⟨eb, 1, none⟩ = _ from ⟨((bcell hb).1 _ _ ler).trans HER.out.1, ((bcell hb).1 _ _ ler).trans HER.out.2⟩); clear hb hm)
    | (go_at_call 19; (with_reducible refine (eqB_same _ _ [false, true, false, true, false] _ (by decide) (HM.out.kept (one_new _ _) (Nat.le_refl _)) (bools_lit _ _ #[.bool false, .bool true, .bool false, .bool true, .bool false] 5 rfl rfl)).mono ?_); rintro e w3 ⟨rfl, hb⟩; have HBc := Lib.hid (bl_on (bl_new HBc.out) hb); have HER3 := Lib.hid (show w3.cell? ⟨eb, 0, none⟩ = _ ∧ w3.cell? ⟨eb, 1, none⟩ = _ from ⟨((bcell ((one_new _ _).trans (hb.mono (one_new _ _).size))).1 _ _ (lt_of_cell HER2.out.1)).trans HER2.out.1, ((bcell ((one_new _ _).trans (hb.mono (one_new _ _).size))).1 _ _ (lt_of_cell HER2.out.1)).trans HER2.out.2⟩); clear hb)
    | (go_at_call 111; (with_reducible refine (within_six eb ((0 : Nat) : Int) _ HER3.out.1 HER3.out.2).mono ?_); rintro e w4 ⟨rfl, hb⟩; have HBc := Lib.hid (bl_on HBc.out hb); clear hb; have k0 : w4.cell? ⟨E1, 0, none⟩ = some (.slice (some ⟨w.heap.size, 0, none⟩) 1 1) := (HE.out.below HBc.out).cell (o := 0) rfl; have k1 : w4.cell? ⟨E1, 1, none⟩ = some (.slice (some ⟨n3, 0, none⟩) 5 5) := (HE.out.below HBc.out).cell (o := 1) rfl; have j0 : w4.cell? ⟨E2, 0, none⟩ = some (.slice (some ⟨r5, 0, none⟩) 1 1) := (HE2.out.below HBc.out).cell (o := 0) rfl; have j1 : w4.cell? ⟨E2, 1, none⟩ = some (.slice (some ⟨n8, 0, none⟩) 3 3) := (HE2.out.below HBc.out).cell (o := 1) rfl; have lk := (HE.out.below HBc.out).lt; have lj := (HE2.out.below HBc.out).lt)
    | (go_at_call 21; (with_reducible refine (HCnt.out _ HBc.out).mono ?_); rintro e w5 ⟨rfl, hb⟩; have HBc := Lib.hid (bl_on HBc.out hb); clear hb; have k0 : w5.cell? ⟨E1, 0, none⟩ = some (.slice (some ⟨w.heap.size, 0, none⟩) 1 1) := (HE.out.below HBc.out).cell (o := 0) rfl; have k1 : w5.cell? ⟨E1, 1, none⟩ = some (.slice (some ⟨n3, 0, none⟩) 5 5) := (HE.out.below HBc.out).cell (o := 1) rfl; have j0 : w5.cell? ⟨E2, 0, none⟩ = some (.slice (some ⟨r5, 0, none⟩) 1 1) := (HE2.out.below HBc.out).cell (o := 0) rfl; have j1 : w5.cell? ⟨E2, 1, none⟩ = some (.slice (some ⟨n8, 0, none⟩) 3 3) := (HE2.out.below HBc.out).cell (o := 1) rfl; have lk := (HE.out.below HBc.out).lt; have lj := (HE2.out.below HBc.out).lt)
    | (go_at_call 12; (with_reducible refine (HLp.out _ HBc.out).mono ?_); rintro e w6 ⟨v6, rfl, ho, hb⟩; obtain ⟨a6, c6, rfl⟩ := own_slice' ho; have HI6 := Lib.hid (IntsAt.of_own (l := [2]) ho); have HBc := Lib.hid (bl_on HBc.out hb); clear hb ho)
    | (go_at_call 11; (with_reducible refine (eqI_same _ _ [2] _ (by decide) (HI6.out.kept (one_new _ _) (Nat.le_refl _)) (ints_lit _ _ #[.int .i64 2] 1 rfl rfl)).mono ?_); rintro e w7 ⟨rfl, hb⟩; have HBc := Lib.hid (bl_on (bl_new HBc.out) hb); clear hb; have k0 : w7.cell? ⟨E1, 0, none⟩ = some (.slice (some ⟨w.heap.size, 0, none⟩) 1 1) := (HE.out.below HBc.out).cell (o := 0) rfl; have k1 : w7.cell? ⟨E1, 1, none⟩ = some (.slice (some ⟨n3, 0, none⟩) 5 5) := (HE.out.below HBc.out).cell (o := 1) rfl; have j0 : w7.cell? ⟨E2, 0, none⟩ = some (.slice (some ⟨r5, 0, none⟩) 1 1) := (HE2.out.below HBc.out).cell (o := 0) rfl; have j1 : w7.cell? ⟨E2, 1, none⟩ = some (.slice (some ⟨n8, 0, none⟩) 3 3) := (HE2.out.below HBc.out).cell (o := 1) rfl; have lk := (HE.out.below HBc.out).lt; have lj := (HE2.out.below HBc.out).lt)
    | (go_at_call 15; (with_reducible refine (HOfY.out _ HBc.out).mono ?_); rintro e w8 ⟨rfl, hm, hb⟩; have HBc := Lib.hid (bl_on HBc.out hb); have HM2 := Lib.hid hm; clear hb hm)
    | (go_at_call 19; (with_reducible refine (eqB_same _ _ [true, true, false] _ (by decide) (HM2.out.kept (one_new _ _) (Nat.le_refl _)) (bools_lit _ _ #[.bool true, .bool true, .bool false] 3 rfl rfl)).mono ?_); rintro e w9 ⟨rfl, hb⟩; have HBc := Lib.hid (bl_on (bl_new HBc.out) hb); clear hb; have k0 : w9.cell? ⟨E1, 0, none⟩ = some (.slice (some ⟨w.heap.size, 0, none⟩) 1 1) := (HE.out.below HBc.out).cell (o := 0) rfl; have k1 : w9.cell? ⟨E1, 1, none⟩ = some (.slice (some ⟨n3, 0, none⟩) 5 5) := (HE.out.below HBc.out).cell (o := 1) rfl; have j0 : w9.cell? ⟨E2, 0, none⟩ = some (.slice (some ⟨r5, 0, none⟩) 1 1) := (HE2.out.below HBc.out).cell (o := 0) rfl; have j1 : w9.cell? ⟨E2, 1, none⟩ = some (.slice (some ⟨n8, 0, none⟩) 3 3) := (HE2.out.below HBc.out).cell (o := 1) rfl; have lk := (HE.out.below HBc.out).lt; have lj := (HE2.out.below HBc.out).lt)
    | (go_at_call 13; (refine (HNd.out _ HBc.out).mono ?_); rintro e w10 ⟨a10, c10, rfl, ho, hb⟩; have HI10 := Lib.hid (IntsAt.of_own (l := [0]) ho); have HBc := Lib.hid (bl_on HBc.out hb); clear hb ho)
    | (go_at_call 11; (with_reducible refine (eqI_same _ _ [0] _ (by decide) (HI10.out.kept (one_new _ _) (Nat.le_refl _)) (ints_lit _ _ #[.int .i64 0] 1 rfl rfl)).mono ?_); rintro e w11 ⟨rfl, hb⟩; have HBc := Lib.hid (bl_on (bl_new HBc.out) hb); clear hb))
  go_ret
  exact ⟨rfl, bl_on HB.out HBc.out⟩
end Go.Proofs.Ytnfjbjmdempafaa
