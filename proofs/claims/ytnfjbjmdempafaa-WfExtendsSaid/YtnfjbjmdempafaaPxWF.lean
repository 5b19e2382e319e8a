/- strings.Clone by the shelf contract, alone. wf: wrong, Count, Loops, Needs, ruleName, Check. -/
import Derived.Shelf.Strconv.Clone
import Derived.Test.YtnfjbjmdempafaaPxBase
import Derived.Test.YtnfjbjmdempafaaPxB
import Derived.Test.YtnfjbjmdempafaaPxF
import Derived.Test.YtnfjbjmdempafaaPxWD
namespace Go.Proofs.Ytnfjbjmdempafaa
section
open Go.RowKit Go.Shelf
def ren316 : Ren := ⟨fun | 316 => 69 | n => n, fun | 0 => 0 | 3 => 3 | 4 => 4 | 9 => 9 | 37 => 122 | 127 => 123 | 5 => 5 | n => n, fun | n => n⟩
theorem lays316 : Go.Proofs.LaysM.n316 Try.prog ren316 := {
  mixed := by kernel_rfl
  f316 := Try.func69.trans (congrArg some (by kernel_rfl))
  t0 := Try.underlying0
  a0 := Try.isAgg0
  z0 := Try.sizeOf0
  v0 := Try.zeroValue0
  t3 := Try.underlying3
  a3 := Try.isAgg3
  z3 := Try.sizeOf3
  v3 := Try.zeroValue3
  t4 := Try.underlying4
  a4 := Try.isAgg4
  z4 := Try.sizeOf4
  v4 := Try.zeroValue4
  t9 := Try.underlying9
  a9 := Try.isAgg9
  z9 := Try.sizeOf9
  v9 := Try.zeroValue9
  t37 := Try.underlying122
  a37 := Try.isAgg122
  z37 := Try.sizeOf122
  v37 := Try.zeroValue122
  t127 := Try.underlying123
  a127 := Try.isAgg123
  z127 := Try.sizeOf123
  v127 := Try.zeroValue123
  t5 := Try.underlying5
  a5 := Try.isAgg5
  z5 := Try.sizeOf5
  v5 := Try.zeroValue5
  i0 := by kernel_rfl
  i3 := by kernel_rfl
  i4 := by kernel_rfl
  i5 := by kernel_rfl
  i9 := by kernel_rfl
  i37 := by kernel_rfl
  i127 := by kernel_rfl }
theorem slClone_any (s : ByteArray) (w : World) (hs : s.size ≤ 281474976710656) :
    Calls Try.prog 69 #[.string s] w fun e w' => e = .returned (.string s) ∧ Below w.heap.size w w' := Any.stringslite_Clone lays316 s w hs
theorem clone_any (s : ByteArray) (w : World) (hs : s.size ≤ 2000000) :
    Calls Try.prog 52 #[.string s] w fun e w' => e = .returned (.string s) ∧ Below w.heap.size w w' := by
  go_enter Try.func52, Try.ntmps52
  go_wp2_with (go_at_call 69; (with_reducible refine (slClone_any s _ (by omega)).mono ?_); rintro e w' ⟨rfl, hb⟩)
  go_ret
  exact ⟨rfl, hb⟩
end
end Go.Proofs.Ytnfjbjmdempafaa
namespace Go.Proofs.Ytnfjbjmdempafaa
open Go.RowKit
theorem wpList_fresh12 {P : Program} (w : World) {ops : Array Oper} {rest : List Oper} {o : Oper} {a : Act} {Q : Exit → Act → World → Prop} (hgd : o.guard = none) (s x : Operand) (t : TypeId)
    (ho : o.op = .call { callee := .builtin .append, args := #[s, x], argTypes := #[t, t] })
    (base : Nat) (e : TypeId) (i : TypeInfo) (z : Value) (size bytes : Nat) (ht : P.underlying t = some (.slice e)) (hi : P.info? e = some i) (hz : i.zero = some z)
    (hsize : i.size = size) (hby : i.bytes = bytes) (hzs : z.cells.size = size) (hsz : 0 < size) (hs : a.eval s = .slice none 0 0)
    (ka : Option Addr) (m c : Nat) (news : List Value) (hx : a.eval x = .slice ka m c) (hl : news.length = m * size) (ha : m = 0 ∨ ∃ b off, ka = some ⟨b, off, none⟩ ∧ ∀ j u, news[j]? = some u → w.cell? ⟨b, off + j, none⟩ = some u) (h1 : ∀ u ∈ news, u.oneCell' = true)
    (h63 : m ≤ maxLen) (hbytes : m * bytes ≤ 140737488355328) (hbase : base ≤ w.heap.size)
    (h : ∀ a' c' w', w'.ownsRow base e size (.slice a' m c') m news → w.grownBy w' none → wpList P ops Q rest (a.put o.dst (.slice a' m c')) w') : wpList P ops Q (o :: rest) a w := by
  refine wpList_plain hgd fun K hK => ?_
  obtain ⟨v', w', hr, h2, h3, -⟩ := run_append_fresh (P := P) w base t o.type e i z size bytes ht hi hz hsize hby hzs hsz ka m c news hl ha h1 h63 hbytes hbase
  obtain ⟨a', c', rfl⟩ : ∃ a' c', v' = .slice a' m c' := by
    rcases h2.2 with ⟨e, e0⟩ | ⟨g, cap, cur, e, -⟩
    · exact ⟨none, 0, by rw [e, e0]⟩
    · exact ⟨_, _, e⟩
  unfold Oper.wp execOp
  simp only [ho, resolve, invoke, builtin, Sem.run_bind, Sem.run_pure, Result.andThen_ok, List.map_toArray, List.map_cons, List.map_nil, hs, hx, hr]
  exact hK _ _ (h a' c' w' h2 h3)
/-- The nodes that are not well-formed. -/
def badL (rs : List PR) (ns : List PN) : List Int := idxP (fun i => decide ((wfL rs ns)[i]? = some false)) ns.length
theorem RowIs.mono {r : List Int} {w w1 w' : World} {e : Ending} (h : RowIs r w1 e w') (hb : Below w.heap.size w w1) : RowIs r w e w' := by
  obtain ⟨v, h1, h2, h3⟩ := h
  exact ⟨v, h1, own_mono h2 hb.size, bl_on hb h3⟩
theorem wwrong_any (rv nv : Value) (rs : List PR) (ns : List PN) (w : World) (hR : RulesIn w rv rs) (hN : NodesAt w nv ns) (hC : CapsAt w nv ns.length) (hO : FlowOk rs ns) :
    Calls Try.prog 36 #[.agg #[rv, nv]] w (RowIs (badL rs ns) w) := by
  have hone := Lib.hid (one_new w (.cells #[rv, nv] 25))
  have HW := Lib.hid (wof_any rv nv rs ns _ (hR.kept hone.out (Nat.le_refl _)) (hN.kept hone.out (Nat.le_refl _)) (hC.kept hN rfl hone.out) hO)
  have hz : (w.alloc (.cells #[rv, nv] 25)).heap.size = w.heap.size + 1 := by simp
  unfold OfIs at HW
  rw [hz] at HW
  have HZ := Lib.hid hz
  have hs := hO.nl
  have HL := Lib.hid (wfL_len rs ns)
  have HB : Hid (badL rs ns = idxP (fun i => decide ((wfL rs ns)[i]? = some false)) (wfL rs ns).length) := Lib.hid (by rw [wfL_len]; rfl)
  obtain ⟨-, ra, rc, rfl, -⟩ := hR
  obtain ⟨-, na, nc, rfl, -⟩ := hN
  generalize wfL rs ns = l at *
  clear hC hO hz
  go_enter Try.func36, Try.ntmps36
  go_wp2_with (first
    | (go_at_call 15; (with_reducible refine HW.out.mono ?_); rintro e w2 ⟨rfl, hm, hb⟩; have HM := Lib.hid hm; have HB2 := Lib.hid hb; clear hm hb)
    | (go_at_call 49; (with_reducible refine (wwhereB_any _ l _ (by rw [HL.out]; omega) HM.out).mono ?_); rintro e w3 ⟨v, rfl, ho, hb⟩; have HO3 := Lib.hid ho; have HB3 := Lib.hid hb; clear ho hb))
  go_ret
  have hb2 := HB2.out
  rw [← HZ.out] at hb2
  have hb := bl_on hone.out hb2
  exact ⟨v, rfl, by rw [HB.out]; exact own_mono HO3.out hb.size, bl_on hb HB3.out⟩
theorem wcount_any (rv nv : Value) (rs : List PR) (ns : List PN) (w : World) (hR : RulesIn w rv rs) (hN : NodesAt w nv ns) (hC : CapsAt w nv ns.length) (hO : FlowOk rs ns) :
    Calls Try.prog 21 #[.agg #[rv, nv]] w fun e w' => e = .returned (.int .i64 ((badL rs ns).length : Int)) ∧ Below w.heap.size w w' := by
  have hone := Lib.hid (one_new w (.cells #[rv, nv] 25))
  have HW := Lib.hid (wwrong_any rv nv rs ns _ (hR.kept hone.out (Nat.le_refl _)) (hN.kept hone.out (Nat.le_refl _)) (hC.kept hN rfl hone.out) hO)
  obtain ⟨-, ra, rc, rfl, -⟩ := hR
  obtain ⟨-, na, nc, rfl, -⟩ := hN
  clear hC hO
  go_enter Try.func21, Try.ntmps21
  go_wp2_with (go_at_call 36; (with_reducible refine HW.out.mono ?_); rintro e w2 ⟨v, rfl, ho, hb⟩; obtain ⟨va, vc, rfl⟩ := own_slice' ho; have HB2 := Lib.hid hb; clear ho hb)
  go_ret
  exact ⟨rfl, bl_on hone.out HB2.out⟩
theorem wloops_any (rv nv : Value) (rs : List PR) (ns : List PN) (w : World) (hR : RulesIn w rv rs) (hN : NodesAt w nv ns) (hO : FlowOk rs ns) :
    Calls Try.prog 12 #[.agg #[rv, nv]] w (RowIs (idxP (loopW ns (lfp rs ns)) ns.length) w) := by
  have hs := hO.nl
  have hone := Lib.hid (one_new w (.cells #[rv, nv] 25))
  have HF := Lib.hid (fof_any rv nv rs ns _ (hR.kept hone.out (Nat.le_refl _)) (hN.kept hone.out (Nat.le_refl _)) hO)
  have HN := Lib.hid hN
  have H5 := Lib.hid (fun n hn => (hO.ok n hn).ok.one)
  obtain ⟨-, ra, rc, rfl, -⟩ := hR
  obtain ⟨-, na, nc, rfl, -⟩ := hN
  unfold NewF at HF
  rw [lfp_length] at HF
  generalize lfp rs ns = L at *
  have HG := Lib.hid (Bl.new w 25 #[.slice ra rs.length rc, .slice na ns.length nc])
  clear hO
  go_enter Try.func12, Try.ntmps12
  go_wp2_with (first
    | (go_at_call 27; (with_reducible refine HF.out.mono ?_); rintro e w2 ⟨fa, fc, rfl, hf, hb⟩; have HF2 := Lib.hid (hf.below (one_new w2 (.cells #[.slice fa ns.length fc] 60))); have HB2 := Lib.hid (bl_new (o := .cells #[.slice fa ns.length fc] 60) (bl_on hone.out hb)); have g1 : w2.cell? ⟨w.heap.size, 1, none⟩ = some (.slice na ns.length nc) := (HG.out.below hb).cell (o := 1) rfl; have lg := (HG.out.below hb).lt; clear hf hb)
    | (go_at_call 28; (with_reducible refine (wwhereN_any _ _ ns L _ _ (by omega) (HN.out.kept HB2.out (Nat.le_refl _)) HF2.out H5.out (by simp)).mono ?_); rintro e w3 ⟨v, rfl, ho, hb⟩; have HO3 := Lib.hid ho; have HB3 := Lib.hid hb; clear ho hb))
  go_ret
  exact ⟨v, rfl, own_mono HO3.out HB2.out.size, bl_on HB2.out HB3.out⟩
/-- What Needs answers: a copy of the needs. -/
def NeedIs (l : List Int) (w : World) (e : Ending) (w' : World) : Prop := ∃ a c, e = .returned (.slice a l.length c) ∧ w'.ownsRow w.heap.size 3 1 (.slice a l.length c) l.length (intsV l) ∧ Below w.heap.size w w'
set_option maxHeartbeats 4000000 in
theorem wneedsF_any (rv nv : Value) (rs : List PR) (ns : List PN) (i : Nat) (n : PN) (w : World) (hR : RulesIn w rv rs) (hN : NodesAt w nv ns) (hC : CapsAt w nv ns.length) (hO : FlowOk rs ns) (hn : ns[i]? = some n) :
    Calls Try.prog 13 #[.agg #[rv, nv], .int .i64 (i : Int)] w (NeedIs (needN rs (lfp rs ns) n) w) := by
  have hs := hO.nl
  obtain ⟨ii, hii, hz0, hz1, hz2⟩ := info_parts infoInt
  have hil := (List.getElem?_eq_some_iff.1 hn).1
  have hmem := List.mem_of_getElem? hn
  obtain ⟨hq60, -, -⟩ := needs_read hO hn
  obtain ⟨-, na, nc, rfl, hna⟩ := id hN
  rcases hna with h0 | ⟨nb, no, rfl, hca⟩
  · rw [h0] at hil; exact absurd hil (Nat.not_lt_zero _)
  obtain ⟨kv, c0, c1, c2, c3, c4, c5, c6, hki, -⟩ := hca i n hn
  have lr := lt_of_cell c0
  obtain ⟨ka, kc, rfl, -⟩ := id hki
  have hkc := hC nb no _ _ rfl i hil _ _ _ c1
  obtain ⟨-, ra, rc, rfl, -⟩ := id hR
  have htwo := Lib.hid (two_new w (.cells #[.slice ra rs.length rc, .slice (some ⟨nb, no, none⟩) ns.length nc] 25) (.cells #[.int .i64 n.op, .slice ka n.kids.length kc, .int .i64 n.rule, .int .u64 n.s0, .int .u64 n.s1, .int .u64 n.s2, .int .u64 n.s3] 35))
  have HN := Lib.hid (fun (W : World) (hb : Below w.heap.size w W) (v : Value) (hF : n.op = 3 → FactsAt W v (lfp rs ns)) => wneeds_any (.slice ra rs.length rc) (.slice (some ⟨nb, no, none⟩) ns.length nc) v rs ns.length (lfp rs ns) n ka kc W (hR.kept hb (Nat.le_refl _)) (hki.kept hb (Nat.le_refl _)) hkc (by have := hO.kl n hmem; omega) hF (hO.ok n hmem))
  have HF := Lib.hid (fof_any _ _ rs ns _ (hR.kept htwo.out (Nat.le_refl _)) (hN.kept htwo.out (Nat.le_refl _)) hO)
  have i0 : ¬ (i : Int) < 0 := by omega
  have i1 : ¬ (ns.length : Int) ≤ (i : Int) := by omega
  have i2 : (i : Int) < (ns.length : Int) := by omega
  unfold NewF at HF
  rw [lfp_length] at HF
  unfold NeedsIs at HN
  generalize lfp rs ns = L at *
  generalize needN rs L n = q at *
  have HG := Lib.hid (show Bl ((w.alloc (.cells #[.slice ra rs.length rc, .slice (some ⟨nb, no, none⟩) ns.length nc] 25)).alloc (.cells #[.int .i64 n.op, .slice ka n.kids.length kc, .int .i64 n.rule, .int .u64 n.s0, .int .u64 n.s1, .int .u64 n.s2, .int .u64 n.s3] 35)) w.heap.size 25 #[.slice ra rs.length rc, .slice (some ⟨nb, no, none⟩) ns.length nc] from Bl.past (Bl.new w _ _))
  have HM := Lib.hid (show Bl ((w.alloc (.cells #[.slice ra rs.length rc, .slice (some ⟨nb, no, none⟩) ns.length nc] 25)).alloc (.cells #[.int .i64 n.op, .slice ka n.kids.length kc, .int .i64 n.rule, .int .u64 n.s0, .int .u64 n.s1, .int .u64 n.s2, .int .u64 n.s3] 35)) (w.heap.size + 1) 35 #[.int .i64 n.op, .slice ka n.kids.length kc, .int .i64 n.rule, .int .u64 n.s0, .int .u64 n.s1, .int .u64 n.s2, .int .u64 n.s3] from Bl.new' (by simp))
  clear hR hN hC hO hn hca hki hmem
  by_cases e3 : n.op = 3
  · rw [e3] at c0 htwo HN HF HG HM
    clear e3
    go_enter Try.func13, Try.ntmps13
    go_wp2_with (first
      | (go_at_call 27; (with_reducible refine HF.out.mono ?_); rintro e w2 ⟨fa, fc, rfl, hf, hb⟩; have HB2 := Lib.hid (bl_on htwo.out hb); have HC2 := Lib.hid (HN.out w2 HB2.out _ (fun _ => hf)); have g0 : w2.cell? ⟨w.heap.size, 0, none⟩ = some (.slice ra rs.length rc) := (HG.out.below hb).cell (o := 0) rfl; have g1 : w2.cell? ⟨w.heap.size, 1, none⟩ = some (.slice (some ⟨nb, no, none⟩) ns.length nc) := (HG.out.below hb).cell (o := 1) rfl; have lg := (HG.out.below hb).lt; have hm2 := HM.out.below hb; have m0 := hm2.cell (o := 0) rfl; have m1 := hm2.cell (o := 1) rfl; have m2 := hm2.cell (o := 2) rfl; have m3 := hm2.cell (o := 3) rfl; have m4 := hm2.cell (o := 4) rfl; have m5 := hm2.cell (o := 5) rfl; have m6 := hm2.cell (o := 6) rfl; have lm := hm2.lt; clear hf hb hm2)
      | (go_at_call 31; (with_reducible refine HC2.out.mono ?_); rintro e w3 ⟨a, c, rfl, hi, hb, -⟩; have HB3 := Lib.hid (bl_on HB2.out hb); have HI3 := Lib.hid hi.src; clear hi hb)
      | (at_builtin; (refine wpList_fresh12 _ rfl _ _ 30 rfl w.heap.size 3 ii (.int .i64 0) 1 8 Try.underlying30 hii hz0 hz1 hz2 rfl (by decide) rfl a q.length c (intsV q) rfl (by unfold intsV; rw [List.length_map, Nat.mul_one]) HI3.out (ints_oneCell .i64 q) (by unfold maxLen; omega) (by omega) (HB3.out.size) ?_); intro a5 c5 w5 hown5 hgrow5; have HB5 := Lib.hid (bl_on HB3.out (below_of_grown hgrow5)); have HO5 := Lib.hid hown5; clear hown5 hgrow5))
    go_ret
    exact ⟨a5, c5, rfl, HO5.out, HB5.out⟩
  · have q3 : (n.op == 3) = false := ibeq_no e3
    have HC2 := Lib.hid (HN.out _ htwo.out (.slice none 0 0) (fun h => absurd h e3))
    go_enter Try.func13, Try.ntmps13
    go_wp2_with (first
      | (go_at_call 31; (with_reducible refine HC2.out.mono ?_); rintro e w3 ⟨a, c, rfl, hi, hb, -⟩; have HB3 := Lib.hid (bl_on htwo.out hb); have HI3 := Lib.hid hi.src; clear hi hb)
      | (at_builtin; (refine wpList_fresh12 _ rfl _ _ 30 rfl w.heap.size 3 ii (.int .i64 0) 1 8 Try.underlying30 hii hz0 hz1 hz2 rfl (by decide) rfl a q.length c (intsV q) rfl (by unfold intsV; rw [List.length_map, Nat.mul_one]) HI3.out (ints_oneCell .i64 q) (by unfold maxLen; omega) (by omega) (HB3.out.size) ?_); intro a5 c5 w5 hown5 hgrow5; have HB5 := Lib.hid (bl_on HB3.out (below_of_grown hgrow5)); have HO5 := Lib.hid hown5; clear hown5 hgrow5))
    go_ret
    exact ⟨a5, c5, rfl, HO5.out, HB5.out⟩
/-- The name of the rule of a node. -/
def ruleNm (rs : List PR) (i : Nat) : ByteArray := match rs[ownL rs (i : Int)]? with | some x => x.name | none => ⟨#[]⟩
theorem wrname_any (rv nv : Value) (rs : List PR) (ns : List PN) (i : Nat) (w : World) (hR : RulesIn w rv rs) (hN : NodesAt w nv ns) (hU : RootsUp (-1) rs) (hs : rs.length ≤ 1000000) (hnm : ∀ r, r ∈ rs → r.name.size ≤ 1000) (ho : ownL rs (i : Int) < rs.length) :
    Calls Try.prog 38 #[.agg #[rv, nv], .int .i64 (i : Int)] w fun e w' => e = .returned (.string (ruleNm rs i)) ∧ Below w.heap.size w w' := by
  have hone := Lib.hid (one_new w (.cells #[rv, nv] 25))
  obtain ⟨-, na, nc, rfl, -⟩ := hN
  have HO := Lib.hid (owner_any rv na ns.length nc rs (i : Int) _ hs (hR.kept hone.out (Nat.le_refl _)) (-1) hU)
  obtain ⟨x, hx⟩ : ∃ x, rs[ownL rs (i : Int)]? = some x := ⟨_, List.getElem?_eq_getElem ho⟩
  obtain ⟨-, ra, rc, rfl, hra⟩ := id hR
  have HNM := Lib.hid (show ruleNm rs i = x.name by unfold ruleNm; rw [hx])
  have hsz := hnm x (List.mem_of_getElem? hx)
  rcases hra with h | ⟨rb, ro, rfl, hca⟩
  · rw [h] at ho; exact absurd ho (Nat.not_lt_zero _)
  obtain ⟨r0, -⟩ := hca _ x hx
  have lr := lt_of_cell r0
  have HG := Lib.hid (Bl.new w 25 #[.slice (some ⟨rb, ro, none⟩) rs.length rc, .slice na ns.length nc])
  have HR0 := Lib.hid r0
  generalize ownL rs (i : Int) = o at *
  have k1 : ¬ (rs.length : Int) ≤ (o : Int) := by omega
  have k2 : (o : Int) < (rs.length : Int) := by omega
  clear hR hU hnm hca hx r0
  go_enter Try.func38, Try.ntmps38
  go_wp2_with (first
    | (go_at_call 51; (with_reducible refine HO.out.mono ?_); rintro e w2 ⟨rfl, hb⟩; have g0 : w2.cell? ⟨w.heap.size, 0, none⟩ = some (.slice (some ⟨rb, ro, none⟩) rs.length rc) := (HG.out.below hb).cell (o := 0) rfl; have lg := (HG.out.below hb).lt; have HB2 := Lib.hid (bl_on hone.out hb); have r0 := HR0.out; rw [← (bcell HB2.out).1 _ _ lr] at r0; have lr2 := lt_of_cell r0; clear hb)
    | (go_at_call 52; (with_reducible refine (clone_any x.name _ (by omega)).mono ?_); rintro e w3 ⟨rfl, hb⟩; have HB3 := Lib.hid (bl_on HB2.out hb); clear hb))
  go_ret
  exact ⟨by rw [HNM.out]; rfl, HB3.out⟩
end Go.Proofs.Ytnfjbjmdempafaa
