/- The closure of Of, appendEach over it, and Of. -/
import Derived.Test.YtnebdnonkefloaaBuildNodes
import Derived.Deep.RegionWith
namespace Go.Proofs.Ytnebdnonkefloaa
section
open Go.RowKit
/-- What the closure of Of returns: the rule, and the nodes in their variable. -/
def OfCIs (w0 : World) (MB : Nat) (nm : ByteArray) (ns' : List PN) (qs : List Value) (w : World) (e : Ending) (w' : World) : Prop :=
  e = .returned (.agg #[.string nm, .int .i64 ((ns'.length : Int) - 1)]) ∧ ∃ nv t, Bl w' MB 34 #[nv] ∧ NRow w0.heap.size nv ns' (qs ++ t) w' ∧ Below w0.heap.size w0 w' ∧ ∀ yb, Kp w0.heap.size MB yb 55 w w'
theorem Kp.set_late {base xb yb : Nat} {t1 : TypeId} {w W : World} (h : Kp base xb yb t1 w W) {b o : Nat} (hb : w.heap.size ≤ b) (v : Value) : Kp base xb yb t1 w (W.setCell ⟨b, o, none⟩ v) :=
  ⟨h.os, h.tape, h.output, Nat.le_trans h.size (by simp [World.setCell]), fun k hk hx hy hc => by
    rw [heap_setCell_other _ _ _ _ (by show k ≠ b; omega)]; exact h.block k hk hx hy hc⟩
theorem NRow.set_typ {base : Nat} {v : Value} {ns : List PN} {qs : List Value} {w : World} (h : NRow base v ns qs w) {b o : Nat} {t : TypeId} {cs : Array Value} (hb : Bl w b t cs) (h1 : 55 ≠ t) (h2 : 3 ≠ t) (u : Value) : NRow base v ns qs (w.setCell ⟨b, o, none⟩ u) :=
  h.set (own_ne h.2.1 hb h1) (fun q hq => by
    obtain ⟨j, hj⟩ := List.getElem?_of_mem hq
    have hjl := (List.getElem?_eq_some_iff.1 hj).1
    obtain ⟨n, hn⟩ : ∃ n, ns[j]? = some n := ⟨_, List.getElem?_eq_getElem (by rw [← h.1]; exact hjl)⟩
    exact own_ne (h.2.2 j n q hn hj) hb h2) u
theorem Bl.set' {w : World} {b o : Nat} {t : TypeId} {cs : Array Value} (h : Bl w b t cs) (u : Value) : Bl (w.setCell ⟨b, o, none⟩ u) b t (cs.setIfInBounds o u) := heap_setCell_same w b o _ _ u h
theorem OfCIs.mk {w0 w W3 w4 : World} {MB : Nat} {nm : ByteArray} {ns' : List PN} {qs t : List Value} {nv x y : Value} {cs : Array Value} (hw : w0.heap.size ≤ w.heap.size) (hml : MB < w.heap.size) (hM : Bl w4 MB 34 #[nv]) (hR : Bl w4 (w.heap.size + 1) 70 cs) (hN : NRow w0.heap.size nv ns' (qs ++ t) W3) (hB : Below w0.heap.size w0 W3) (hK : ∀ yb, Kp w0.heap.size MB yb 55 w W3) (h4 : Below W3.heap.size W3 w4) :
    OfCIs w0 MB nm ns' qs w (.returned (.agg #[.string nm, .int .i64 ((ns'.length : Int) - 1)])) ((w4.setCell ⟨w.heap.size + 1, 0, none⟩ x).setCell ⟨w.heap.size + 1, 1, none⟩ y) := by
  have hR1 := hR.set' (o := 0) x
  refine ⟨rfl, nv, t, (hM.other (by omega) _).other (by omega) _, ((hN.grown h4).set_typ hR (by decide) (by decide) _).set_typ hR1 (by decide) (by decide) _, ((hB.trans (h4.mono hB.size)).setCell (p := ⟨w.heap.size + 1, 0, none⟩) (by show _ ≤ w.heap.size + 1; omega) _).setCell (p := ⟨w.heap.size + 1, 1, none⟩) (by show _ ≤ w.heap.size + 1; omega) _, fun yb => (((hK yb).trans (Kp.of_below h4)).set_late (Nat.le_succ _) _).set_late (Nat.le_succ _) _⟩
set_option maxHeartbeats 8000000 in
set_option maxRecDepth 100000 in
theorem ofC_any (w0 : World) (MB : Nat) (nm : ByteArray) (nv iv : Value) (ns : List PN) (qs : List Value) (its : List PI) (w : World) (ns' : List PN) (hnm : nm.size ≤ 2000000) (hI : ItemsAt w0 iv its) (hl : its.length ≤ 1000000) (hbd : ns.length + its.length ≤ 1000000) (hb : Below w0.heap.size w0 w)
    (hM : w0.heap.size ≤ MB) (hB : Bl w MB 34 #[nv]) (hr : NRow w0.heap.size nv ns qs w) (ho : oneL ns its = some (ns', [])) : Calls Try.prog 30 #[.agg #[.string nm, iv], .pointer (some ⟨MB, 0, none⟩)] w (OfCIs w0 MB nm ns' qs w) := by
  obtain ⟨na, nc, rfl⟩ := own_slice' hr.2.1
  obtain ⟨ia, ic, rfl⟩ := hI.slice
  have h2 := two_new w (.cells #[.string nm, .slice ia its.length ic] 66) (.cells #[.string ⟨#[]⟩, .int .i64 0] 70)
  have hC := Lib.hid (nodes_any w0 (.slice na ns.length nc) (.slice ia its.length ic) ns qs its _ ns' hI hl hbd (hb.trans (h2.mono hb.size)) (hr.grown h2) ho)
  unfold NodesIs at hC
  have hB2 := Lib.hid (hB.below h2)
  have hA2 : Bl ((w.alloc (.cells #[.string nm, .slice ia its.length ic] 66)).alloc (.cells #[.string ⟨#[]⟩, .int .i64 0] 70)) w.heap.size 66 #[.string nm, .slice ia its.length ic] := (Bl.new w _ _).below (one_new _ _)
  have hR2 : Bl ((w.alloc (.cells #[.string nm, .slice ia its.length ic] 66)).alloc (.cells #[.string ⟨#[]⟩, .int .i64 0] 70)) (w.heap.size + 1) 70 #[.string ⟨#[]⟩, .int .i64 0] := by
    have := Bl.new (w.alloc (.cells #[.string nm, .slice ia its.length ic] 66)) 70 #[.string ⟨#[]⟩, .int .i64 0]
    simpa using this
  have HA2 := Lib.hid hA2
  have HR2 := Lib.hid hR2
  have m0 := hB.cell (o := 0) rfl
  have ml := hB.lt
  have H2 := Lib.hid h2
  have HB0 := Lib.hid hb
  have hns : (ns'.length : Int) ≤ 1000000 := by
    obtain ⟨d, m, e1, e2, e3, -⟩ := oneL_cut ho
    have := congrArg List.length e1
    rw [List.length_append] at this
    rw [e2, List.length_append, e3]; omega
  have hws := hb.size
  clear hB hr ho hb hA2 hR2 h2
  go_enter Try.func30, Try.ntmps30
  go_upto_region 2 with (go_at_call 31; (with_reducible refine hC.out.mono ?_); rintro e w2 ⟨nv2, t, rfl, hr2, hb2, hk2⟩; obtain ⟨na2, nc2, rfl⟩ := own_slice' hr2.2.1; have HN2 := Lib.hid hr2; have HBB2 := Lib.hid hb2; have HK2 := Lib.hid hk2; have HM2 := Lib.hid ((hk2 (MB + 1) (MB + 1)).bl hB2.out (by omega) (by omega) (by decide)); have HA3 := Lib.hid ((hk2 (w.heap.size + 1) (w.heap.size + 1)).bl HA2.out (by omega) (by omega) (by decide)); have HR3 := Lib.hid ((hk2 w.heap.size w.heap.size).bl HR2.out (by omega) (by omega) (by decide)); have g2 := HM2.out.cell (o := 0) rfl; have f2 := HM2.out.free 0; clear hr2 hb2 hk2)
  obtain ⟨W3, hW3⟩ : ∃ W3, w2.setCell ⟨MB, 0, none⟩ (.slice na2 ns'.length nc2) = W3 := ⟨_, rfl⟩
  have hM3 : Bl W3 MB 34 #[.slice na2 ns'.length nc2] := by rw [← hW3]; exact HM2.out.set _
  have hA3 : Bl W3 w.heap.size 66 #[.string nm, .slice ia its.length ic] := by rw [← hW3]; exact HA3.out.other (by omega) _
  have hR3 : Bl W3 (w.heap.size + 1) 70 #[.string ⟨#[]⟩, .int .i64 0] := by rw [← hW3]; exact HR3.out.other (by omega) _
  have hN3 : NRow w0.heap.size (.slice na2 ns'.length nc2) ns' (qs ++ t) W3 := by
    rw [← hW3]
    exact HN2.out.set (own_ne HN2.out.2.1 HM2.out (by decide)) (fun q hq => by
      obtain ⟨j, hj⟩ := List.getElem?_of_mem hq
      have hjl := (List.getElem?_eq_some_iff.1 hj).1
      obtain ⟨n, hn⟩ : ∃ n, ns'[j]? = some n := ⟨_, List.getElem?_eq_getElem (by rw [← HN2.out.1]; exact hjl)⟩
      exact own_ne (HN2.out.2.2 j n q hn hj) HM2.out (by decide)) _
  have hB3 : Below w0.heap.size w0 W3 := by rw [← hW3]; exact HBB2.out.setCell (p := ⟨MB, 0, none⟩) hM _
  have hK3 : ∀ yb, Kp w0.heap.size MB yb 55 w W3 := fun yb => by
    rw [← hW3]
    exact ((Kp.of_below H2.out).trans (HK2.out MB yb)).trans (Kp.set HM2.out (.inl rfl) _)
  have m3 := hM3.cell (o := 0) rfl
  have a3 := hA3.cell (o := 0) rfl
  have r30 := hR3.cell (o := 0) rfl
  have r31 := hR3.cell (o := 1) rfl
  have rf := hR3.free
  have al := hA3.lt
  have rl := hR3.lt
  have ml3 := hM3.lt
  have HN3 := Lib.hid hN3
  have HB3 := Lib.hid hB3
  have HK3 := Lib.hid hK3
  have HM3 := Lib.hid hM3
  have HR3' := Lib.hid hR3
  have qw : IntKind.i64.wrap ((ns'.length : Int) - 1) = (ns'.length : Int) - 1 := by rw [IntKind.wrap_i64]; omega
  rw [hW3]
  clear hW3 hM3 hA3 hR3 hN3 hB3 hK3 HM2 HA3 HR3 g2 f2 HN2 HBB2 HK2 HA2 HR2 hC hB2 m0 H2 HB0
  go_region_with (first | (go_at_call 32; (with_reducible refine (clone_any nm _ hnm).mono ?_); rintro e w4 ⟨rfl, hb4⟩; have hm4 := (HM3.out.below (below_drew1 W3)).below hb4; have hr4 := (HR3'.out.below (below_drew1 W3)).below hb4; have m4 := hm4.cell (o := 0) rfl; have r40 := hr4.cell (o := 0) rfl; have r41 := hr4.cell (o := 1) rfl; have rf4 := hr4.free; have HM4 := Lib.hid hm4; have HR4 := Lib.hid hr4; have HB4 := Lib.hid ((below_drew1 W3).trans (hb4.mono (below_drew1 W3).size)); clear hb4 hm4 hr4))
  all_goals go_wp2
  all_goals
    try rw [qw]
    have hR5 := (HR4.out.set' (o := 0) (.string nm)).set' (o := 1) (.int .i64 ((ns'.length : Int) - 1))
    have hr0 := hR5.cell (o := 0) (u := .string nm) rfl
    have hr1 := hR5.cell (o := 1) (u := .int .i64 ((ns'.length : Int) - 1)) rfl
    exact bodyPost_ret (v := .agg #[.string nm, .int .i64 ((ns'.length : Int) - 1)]) (by simp [results, Try.results30, go_sem, hr0, hr1]) rfl (OfCIs.mk hws ml HM4.out HR4.out HN3.out HB3.out HK3.out HB4.out)
end
section
open Go.RowKit
def sumI (l : List PQ) : Nat := (l.map fun q => q.items.length).sum
theorem NRow.grown_typ {base : Nat} {v : Value} {ns : List PN} {qs : List Value} {w w' : World} {t : TypeId} {r : Option Nat} (h : NRow base v ns qs w) (hg : w.grownBy w' r) (hr : ∀ g, r = some g → ∃ c fz, w.heap[g]? = some (.cells c t fz)) (h1 : 55 ≠ t) (h2 : 3 ≠ t) : NRow base v ns qs w' :=
  ⟨h.1, own_kept' h.2.1 hg hr h1, fun j n q a b => own_kept' (h.2.2 j n q a b) hg hr h2⟩
def EachOfIs (w0 : World) (MB : Nat) (rs : List PR) (ns : List PN) (w : World) (e : Ending) (w' : World) : Prop :=
  ∃ tv nv qs, e = .returned tv ∧ w'.ownsRow w.heap.size 70 2 tv rs.length (rulesC rs) ∧ Bl w' MB 34 #[nv] ∧ NRow w0.heap.size nv ns qs w' ∧ Below w0.heap.size w0 w' ∧ ∀ yb, Kp w0.heap.size MB yb 55 w w'
def EachOfS (w0 : World) (MB : Nat) (l : List PQ) (rs : List PR) (ns : List PN) (w : World) (k : Nat) (tv : Value) (wr : World) : Prop :=
  ∃ nv nsk qsk rsk, ofL (l.drop k) nsk rsk = some (rs, ns) ∧ nsk.length + sumI (l.drop k) ≤ 1000000 ∧ rsk.length = k ∧ wr.ownsRow w.heap.size 70 2 tv k (rulesC rsk) ∧ Bl wr MB 34 #[nv] ∧ NRow w0.heap.size nv nsk qsk wr ∧ Below w0.heap.size w0 wr ∧ ∀ yb, Kp w0.heap.size MB yb 55 w wr
theorem EachOfS.done {w0 : World} {MB : Nat} {l : List PQ} {rs : List PR} {ns : List PN} {w : World} {tv : Value} {wr : World} (h : EachOfS w0 MB l rs ns w l.length tv wr) : EachOfIs w0 MB rs ns w (.returned tv) wr := by
  obtain ⟨nv, nsk, qsk, rsk, h1, -, h2, h3, h4, h5, h6, h7⟩ := h
  rw [List.drop_length] at h1
  injection h1 with h1
  injection h1 with h8 h9
  subst h8 h9
  rw [← h2] at h3
  exact ⟨tv, nv, qsk, rfl, h3, h4, h5, h6, h7⟩
theorem EachOfS.step {w0 w wr w2 w5 : World} {MB : Nat} {l : List PQ} {rs rsk : List PR} {ns ns' : List PN} {qs' : List Value} {nv tv tv' : Value} {k : Nat} {nm : ByteArray} {o : Obj} {cs : Array Value} {z : Int}
    (h1 : ofL (l.drop (k + 1)) ns' (rsk ++ [PR.mk nm z]) = some (rs, ns)) (hb : ns'.length + sumI (l.drop (k + 1)) ≤ 1000000) (hk : rsk.length = k) (hw0 : w0.heap.size ≤ w.heap.size)
    (hK : ∀ yb, Kp w0.heap.size MB yb 55 w wr) (hT : w2.ownsRow w.heap.size 70 2 tv k (rulesC rsk)) (hM : Bl w2 MB 34 #[nv]) (hN : NRow w0.heap.size nv ns' qs' w2) (hB : Below w0.heap.size w0 w2) (hK2 : ∀ yb, Kp w0.heap.size MB yb 55 (wr.alloc (.cells cs 66)) w2)
    (hown : w5.ownsRow w.heap.size 70 2 tv' (k + 1) (rulesC rsk ++ [.string nm, .int .i64 z])) (hg : (w2.alloc o).grownBy w5 tv.ownBlock) : EachOfS w0 MB l rs ns w (k + 1) tv' w5 := by
  have hb3 := one_new w2 o
  have hT3 := ownsRow_grown hT hb3
  have kind : ∀ g, tv.ownBlock = some g → ∃ c fz, (w2.alloc o).heap[g]? = some (.cells c 70 fz) := fun g hv => Lib.ownsRow_kind hT3 g hv
  refine ⟨nv, ns', qs', rsk ++ [PR.mk nm z], h1, hb, by rw [List.length_append, hk]; rfl, ?_, (hM.below hb3).grown hg (fun g e => by obtain ⟨c, fz, hc⟩ := kind g e; exact ⟨c, _, fz, hc, by decide⟩), (hN.grown hb3).grown_typ hg kind (by decide) (by decide), (hB.trans (hb3.mono hB.size)).grown hg (Nat.le_trans hB.size hb3.size) (fun g e => Nat.le_trans hw0 (hT.lt g e).1), fun yb => ((((hK yb).trans (Kp.of_below (one_new wr _))).trans (hK2 yb)).trans (Kp.of_below hb3)).late hg (fun g e => (hT.lt g e).1)⟩
  unfold rulesC at hown ⊢
  rw [List.flatMap_append]; exact hown
set_option maxHeartbeats 8000000 in
set_option maxRecDepth 100000 in
theorem eachOf_any (w0 : World) (MB : Nat) (lv nv : Value) (l : List PQ) (rs : List PR) (ns : List PN) (w : World) (hL : QsAt w0 lv l) (hl : l.length ≤ 1000000) (hnm : ∀ q, q ∈ l → q.name.size ≤ 2000000) (hbd : sumI l ≤ 1000000) (hb : Below w0.heap.size w0 w) (hM : w0.heap.size ≤ MB)
    (hB : Bl w MB 34 #[nv]) (hr : NRow w0.heap.size nv [] [] w) (ho : ofL l [] [] = some (rs, ns)) :
    Calls Try.prog 29 #[.slice none 0 0, lv, .func (.func 30) #[] #[.pointer (some ⟨MB, 0, none⟩)]] w (EachOfIs w0 MB rs ns w) := by
  obtain ⟨la, lc, rfl⟩ := hL.slice
  have hst : EachOfS w0 MB l rs ns w 0 (.slice none 0 0) w := ⟨nv, [], [], [], by rw [List.drop_zero]; exact ho, by rw [List.drop_zero]; simpa using hbd, rfl, World.ownsRow_nil _ _ _ _, hB, hr, hb, fun yb => Kp.refl _⟩
  have HST := Lib.hid hst
  have HL := Lib.hid hL
  have HNM := Lib.hid hnm
  have hw0 := hb.size
  have hml := hB.lt
  obtain ⟨ir, hir, hzr0, hzr1, hzr2⟩ := info_parts infoRule
  clear hst hL hB hr ho hb hnm
  go_enter Try.func29, Try.ntmps29
  go_wp2
  go_loopw [11, 0] (fun vc vt wr => ∃ k : Nat, k ≤ l.length ∧ vc = .int .i64 k ∧ EachOfS w0 MB l rs ns w k vt wr) (fun vc _ _ => l.length - (intOf vc).toNat)
  case atStart => exact ⟨0, Nat.zero_le _, rfl, HST.out⟩
  case round =>
    obtain ⟨k, hk, rfl, hS⟩ := hrel
    by_cases hlt : k < l.length
    · obtain ⟨q, hq⟩ : ∃ q, l[k]? = some q := ⟨_, List.getElem?_eq_getElem hlt⟩
      obtain ⟨nvk, nsk, qsk, rsk, h1, h2, h3, h4, h5, h6, h7, h8⟩ := hS
      obtain ⟨ta, tc, rfl⟩ := own_slice' h4
      obtain ⟨b, off, ia, ic, rfl, d0, d1, ci⟩ := HL.out.at hq
      have c0 : wr.cell? ⟨b, off + k * 2, none⟩ = some (.string q.name) := by rw [(bcell h7).1 _ _ (lt_of_cell d0)]; exact d0
      have c1 : wr.cell? ⟨b, off + k * 2 + 1, none⟩ = some (.slice ia q.items.length ic) := by rw [(bcell h7).1 _ _ (lt_of_cell d1)]; exact d1
      have hd : l.drop k = q :: l.drop (k + 1) := by
        obtain ⟨a1, a2⟩ := List.getElem?_eq_some_iff.1 hq
        rw [List.drop_eq_getElem_cons a1, a2]
      rw [hd] at h1 h2
      obtain ⟨ns1, h9, h10⟩ := ofL_inv h1
      have hsum : sumI (q :: l.drop (k + 1)) = q.items.length + sumI (l.drop (k + 1)) := by unfold sumI; rw [List.map_cons, List.sum_cons]
      rw [hsum] at h2
      have hone := one_new wr (.cells #[.string q.name, .slice ia q.items.length ic] 66)
      have hC := Lib.hid (ofC_any w0 MB q.name nvk (.slice ia q.items.length ic) nsk qsk q.items _ ns1 (HNM.out q (List.mem_of_getElem? hq)) ci (by omega) (by omega) (h7.trans (hone.mono h7.size)) hM (h5.below hone) (h6.grown hone) h9)
      unfold OfCIs at hC
      have hnb : ns1.length + sumI (l.drop (k + 1)) ≤ 1000000 := by
        obtain ⟨d, m, f1, f2, f3, -⟩ := oneL_cut h9
        have := congrArg List.length f1
        rw [List.length_append] at this
        rw [f2, List.length_append]; omega
      have k1 : (k : Int) < (l.length : Int) := by omega
      have H10 := Lib.hid h10
      have HT := Lib.hid (ownsRow_grown h4 hone)
      have hmb : (Value.slice ta k tc).ownBlock ≠ some MB := own_ne h4 h5 (by decide)
      have HK := Lib.hid h8
      have hwr := (h8 0).size
      clear h1 h2 h4 h5 h6 h7 h8 h9 h10 d0 d1 ci hd hsum hone hq
      go_wp2_with (first
        | (go_at_call 30; (with_reducible refine hC.out.mono ?_); rintro e w2 ⟨rfl, nv2, t2, hM2, hN2, hB2, hK2⟩; have HM2 := Lib.hid hM2; have HN2 := Lib.hid hN2; have HB2 := Lib.hid hB2; have HK2 := Lib.hid hK2; have HT2 := Lib.hid ((hK2 MB).own HT.out (by decide) hmb hmb); have hsz2 := (hK2 MB).size; clear hM2 hN2 hB2 hK2)
        | (at_builtin; refine wpList_append_own _ rfl _ _ 33 rfl w.heap.size 70 ir (.agg #[.string ⟨#[]⟩, .int .i64 0]) 2 24 Try.underlying33 hir hzr0 hzr1 hzr2 rfl (by decide) _ k _ rfl (ownsRow_grown HT2.out (one_new _ _)) ⟨w2.heap.size, 0, none⟩ 1 1 [.string q.name, .int .i64 ((ns1.length : Int) - 1)] rfl rfl (cell_row_one w2 _ _) (by simp [Value.oneCell']) (by unfold maxLen; omega) (by omega) (by simp at hsz2; simp; omega) ?_; intro v5 w5 hown' hgrow _; have HO := Lib.hid hown'; have HG := Lib.hid hgrow; clear hown' hgrow))
      go_roundw
      case rel => exact ⟨k + 1, by omega, by go_num, EachOfS.step H10.out hnb h3 hw0 HK.out HT2.out HM2.out HN2.out HB2.out HK2.out HO.out HG.out⟩
      case measure => simp [intOf]; omega
    · obtain rfl : k = l.length := by omega
      have k1 : ¬ (l.length : Int) < (l.length : Int) := by omega
      have HD := Lib.hid hS.done
      clear hS
      go_wp2
      go_ret
      exact HD.out
end
section
open Go.RowKit
def OfNo (w : World) (e : Ending) (w' : World) : Prop := e = .returned (.tuple #[.agg #[.slice none 0 0, .slice none 0 0], .bool false]) ∧ Below w.heap.size w w'
def OfYes (rs : List PR) (ns : List PN) (w : World) (e : Ending) (w' : World) : Prop :=
  ∃ rv nv qs, e = .returned (.tuple #[.agg #[rv, nv], .bool true]) ∧ w'.ownsRow w.heap.size 70 2 rv rs.length (rulesC rs) ∧ NRow w.heap.size nv ns qs w' ∧ Below w.heap.size w w'
set_option maxHeartbeats 8000000 in
set_option maxRecDepth 100000 in
theorem of_no (lv : Value) (l : List PQ) (w : World) (hL : QsAt w lv l) (hl : l.length ≤ 1000000) (hbd : ∀ q, q ∈ l → q.items.length ≤ 1000000) (q0 : PQ) (hq0 : q0 ∈ l) (hs0 : singleL q0.items 1 = false) :
    Calls Try.prog 10 #[lv] w (OfNo w) := by
  obtain ⟨la, lc, rfl⟩ := hL.slice
  have HL := Lib.hid hL
  have HB := Lib.hid hbd
  have HQ : Hid (∃ k0, k0 < l.length ∧ ∀ q, l[k0]? = some q → singleL q.items 1 = false) := Lib.hid (by
    obtain ⟨k0, hk0⟩ := List.getElem?_of_mem hq0
    exact ⟨k0, (List.getElem?_eq_some_iff.1 hk0).1, fun q hq => by rw [hk0] at hq; rw [← Option.some.inj hq]; exact hs0⟩)
  clear hL hbd hq0 hs0
  go_enter Try.func10, Try.ntmps10
  go_wp2
  go_loopw [10] (fun vc wr => ∃ k : Nat, k ≤ l.length ∧ vc = .int .i64 k ∧ Below w.heap.size w wr ∧ Bl wr w.heap.size 36 #[.slice none 0 0, .slice none 0 0] ∧ ∀ j, j < k → ∀ q, l[j]? = some q → singleL q.items 1 = true) (fun vc _ => l.length - (intOf vc).toNat)
  case atStart => exact ⟨0, Nat.zero_le _, rfl, one_new _ _, Bl.new w _ _, fun j h => absurd h (Nat.not_lt_zero _)⟩
  case round =>
    obtain ⟨k, hk, rfl, hb, hR, hA⟩ := hrel
    by_cases hlt : k < l.length
    · obtain ⟨q, hq⟩ : ∃ q, l[k]? = some q := ⟨_, List.getElem?_eq_getElem hlt⟩
      obtain ⟨b, off, ia, ic, rfl, c0, c1, ci⟩ := (HL.out.kept hb (Nat.le_refl _)).at hq
      have hone := one_new wr (.cells #[.string q.name, .slice ia q.items.length ic] 66)
      have hC := Lib.hid (single_any (.slice ia q.items.length ic) q.items _ (ci.kept hone (Nat.le_refl _)) (by have := HB.out q (List.mem_of_getElem? hq); omega))
      have k1 : (k : Int) < (l.length : Int) := by omega
      have HR := Lib.hid (hR.below hone)
      have HBB := Lib.hid (hb.trans (hone.mono hb.size))
      have HA := Lib.hid hA
      have HQQ := Lib.hid hq
      clear hb hR hA ci hone hq
      cases hs : singleL q.items 1 with
      | true =>
        rw [hs] at hC
        have HS := Lib.hid hs
        clear hs
        go_wp2_with (go_at_call 28; (with_reducible refine hC.out.mono ?_); rintro e w2 ⟨rfl, hb2⟩; have HB2 := Lib.hid (HBB.out.trans (hb2.mono HBB.out.size)); have HR2 := Lib.hid (HR.out.below hb2); clear hb2)
        go_roundw
        case rel => exact ⟨k + 1, by omega, by go_num, HB2.out, HR2.out, fun j hj q' hq' => by
          rcases Nat.lt_or_ge j k with h | h
          · exact HA.out j h q' hq'
          · obtain rfl : j = k := by omega
            rw [HQQ.out] at hq'
            rw [← Option.some.inj hq']; exact HS.out⟩
        case measure => simp [intOf]; omega
      | false =>
        rw [hs] at hC
        clear hs
        go_wp2_with (go_at_call 28; (with_reducible refine hC.out.mono ?_); rintro e w2 ⟨rfl, hb2⟩; have hr2 := HR.out.below hb2; have r0 := hr2.cell (o := 0) rfl; have r1 := hr2.cell (o := 1) rfl; have rf := hr2.free; have HB2 := Lib.hid (HBB.out.trans (hb2.mono HBB.out.size)); have HR2 := Lib.hid hr2; clear hb2 hr2)
        have hR5 := (HR2.out.set' (o := 0) (.slice none 0 0)).set' (o := 1) (.slice none 0 0)
        have hr0 := hR5.cell (o := 0) (u := .slice none 0 0) rfl
        have hr1 := hR5.cell (o := 1) (u := .slice none 0 0) rfl
        refine bodyPost_ret (v := .tuple #[.agg #[.slice none 0 0, .slice none 0 0], .bool false]) (by simp [results, Try.results10, go_sem, hr0, hr1]) rfl ⟨rfl, ?_⟩
        exact (HB2.out.setCell (p := ⟨w.heap.size, 0, none⟩) (Nat.le_refl _) _).setCell (p := ⟨w.heap.size, 1, none⟩) (Nat.le_refl _) _
    · exact absurd HQ.out (by
        rintro ⟨k0, h1, h2⟩
        obtain ⟨q, hq⟩ : ∃ q, l[k0]? = some q := ⟨_, List.getElem?_eq_getElem h1⟩
        have h3 := hA k0 (by omega) q hq
        rw [h2 q hq] at h3
        cases h3)
theorem OfYes.mk {w W w2 : World} {rs : List PR} {ns : List PN} {qs : List Value} {rv nv x y : Value} {cs : Array Value} (hW : w.heap.size ≤ W.heap.size) (hR : Bl w2 w.heap.size 36 cs) (hT : w2.ownsRow W.heap.size 70 2 rv rs.length (rulesC rs)) (hN : NRow w.heap.size nv ns qs w2) (hB : Below w.heap.size w w2) :
    OfYes rs ns w (.returned (.tuple #[.agg #[rv, nv], .bool true])) ((w2.setCell ⟨w.heap.size, 0, none⟩ x).setCell ⟨w.heap.size, 1, none⟩ y) := by
  have hR1 := hR.set' (o := 0) x
  refine ⟨rv, nv, qs, rfl, ?_, (hN.set_typ hR (by decide) (by decide) _).set_typ hR1 (by decide) (by decide) _, (hB.setCell (p := ⟨w.heap.size, 0, none⟩) (Nat.le_refl _) _).setCell (p := ⟨w.heap.size, 1, none⟩) (Nat.le_refl _) _⟩
  have a1 := own_mono hT hW
  have a2 := ownsRow_setCell_other a1 (a := ⟨w.heap.size, 0, none⟩) (own_ne a1 hR (by decide)) x
  exact ownsRow_setCell_other a2 (a := ⟨w.heap.size, 1, none⟩) (own_ne a2 hR1 (by decide)) y
set_option maxHeartbeats 8000000 in
set_option maxRecDepth 100000 in
theorem of_yes (lv : Value) (l : List PQ) (rs : List PR) (ns : List PN) (w : World) (hL : QsAt w lv l) (hl : l.length ≤ 1000000) (hnm : ∀ q, q ∈ l → q.name.size ≤ 2000000) (hbd : sumI l ≤ 1000000) (hit : ∀ q, q ∈ l → q.items.length ≤ 1000000) (hs : ∀ q, q ∈ l → singleL q.items 1 = true) (ho : ofL l [] [] = some (rs, ns)) :
    Calls Try.prog 10 #[lv] w (OfYes rs ns w) := by
  obtain ⟨la, lc, rfl⟩ := hL.slice
  have HL := Lib.hid hL
  have HB := Lib.hid hit
  have HS := Lib.hid hs
  have HN := Lib.hid hnm
  have HO := Lib.hid ho
  have hmf : ∀ (fn : Fn) (first cap : Array Value) (w : World), (Instr.makeFunc fn first cap).run Try.prog w = .ok (.func fn first cap) w := fun _ _ _ _ => rfl
  clear hL hit hs hnm ho
  go_enter Try.func10, Try.ntmps10
  go_wp2
  go_loopw [10] (fun vc wr => ∃ k : Nat, k ≤ l.length ∧ vc = .int .i64 k ∧ Below w.heap.size w wr ∧ Bl wr w.heap.size 36 #[.slice none 0 0, .slice none 0 0]) (fun vc _ => l.length - (intOf vc).toNat)
  case atStart => exact ⟨0, Nat.zero_le _, rfl, one_new _ _, Bl.new w _ _⟩
  case round =>
    obtain ⟨k, hk, rfl, hb, hR⟩ := hrel
    by_cases hlt : k < l.length
    · obtain ⟨q, hq⟩ : ∃ q, l[k]? = some q := ⟨_, List.getElem?_eq_getElem hlt⟩
      obtain ⟨b, off, ia, ic, rfl, c0, c1, ci⟩ := (HL.out.kept hb (Nat.le_refl _)).at hq
      have hone := one_new wr (.cells #[.string q.name, .slice ia q.items.length ic] 66)
      have hC := Lib.hid (single_any (.slice ia q.items.length ic) q.items _ (ci.kept hone (Nat.le_refl _)) (by have := HB.out q (List.mem_of_getElem? hq); omega))
      rw [HS.out q (List.mem_of_getElem? hq)] at hC
      have k1 : (k : Int) < (l.length : Int) := by omega
      have HR := Lib.hid (hR.below hone)
      have HBB := Lib.hid (hb.trans (hone.mono hb.size))
      clear hb hR ci hone hq
      go_wp2_with (go_at_call 28; (with_reducible refine hC.out.mono ?_); rintro e w2 ⟨rfl, hb2⟩; have HB2 := Lib.hid (HBB.out.trans (hb2.mono HBB.out.size)); have HR2 := Lib.hid (HR.out.below hb2); clear hb2)
      go_roundw
      case rel => exact ⟨k + 1, by omega, by go_num, HB2.out, HR2.out⟩
      case measure => simp [intOf]; omega
    · obtain rfl : k = l.length := by omega
      have k1 : ¬ (l.length : Int) < (l.length : Int) := by omega
      have hone := one_new wr (.cells #[.slice none 0 0] 34)
      have hsz := hb.size
      have hC := Lib.hid (eachOf_any w wr.heap.size (.slice la l.length lc) (.slice none 0 0) l rs ns (wr.alloc (.cells #[.slice none 0 0] 34)) HL.out hl HN.out hbd (hb.trans (hone.mono hsz)) hsz (Bl.new wr _ _) (NRow.nil _ _) HO.out)
      unfold EachOfIs at hC
      have HR := Lib.hid (hR.below hone)
      have hrl := hR.lt
      clear hb hR hone
      go_wp2_with (go_at_call 29; (with_reducible refine hC.out.mono ?_); rintro e w2 ⟨tv, nv, qs, rfl, hT, hM, hN, hB2, hK⟩; obtain ⟨ta, tc, rfl⟩ := own_slice' hT; obtain ⟨na, nc, rfl⟩ := own_slice' hN.2.1; have hr2 := (hK wr.heap.size).bl HR.out (by omega) (by omega) (by decide); have r0 := hr2.cell (o := 0) rfl; have r1 := hr2.cell (o := 1) rfl; have rf := hr2.free; have m0 := hM.cell (o := 0) rfl; have HR2 := Lib.hid hr2; have HT := Lib.hid hT; have HN2 := Lib.hid hN; have HB2 := Lib.hid hB2; clear hr2 hT hM hN hB2 hK)
      have hR5 := (HR2.out.set' (o := 0) (.slice ta rs.length tc)).set' (o := 1) (.slice na ns.length nc)
      have hr0 := hR5.cell (o := 0) (u := .slice ta rs.length tc) rfl
      have hr1 := hR5.cell (o := 1) (u := .slice na ns.length nc) rfl
      exact bodyPost_ret (v := .tuple #[.agg #[.slice ta rs.length tc, .slice na ns.length nc], .bool true]) (by simp [results, Try.results10, go_sem, hr0, hr1]) rfl (OfYes.mk (by simp; omega) HR2.out HT.out HN2.out HB2.out)
end
end Go.Proofs.Ytnebdnonkefloaa
