/- The closure of Items, and Items. -/
import Derived.Test.YtnebdnonkefloaaBuildIts
import Derived.Test.YtnebdnonkefloaaBuildOf
import Derived.Test.YtnebdnonkefloaaBuildROf
import Derived.Deep.OwnRows
namespace Go.Proofs.Ytnebdnonkefloaa
section
open Go.RowKit
def ItemsCIs (w0 : World) (T n : Nat) (nm : ByteArray) (tk' : Nat → Bool) (its : List PI) (w : World) (e : Ending) (w' : World) : Prop :=
  ∃ ov, e = .returned (.agg #[.string nm, ov]) ∧ w'.ownsRow w.heap.size 64 7 ov its.length (itemsC its) ∧ Bl w' T 4 (boolsA n tk') ∧ Below w0.heap.size w0 w' ∧ ∀ yb, Kp w.heap.size T yb 64 w w'
/-- The blocks that the closure reads and writes. -/
def I4 (A GB TKB R : Nat) (nm : ByteArray) (root : Int) (rv nv tv : Value) (W : World) : Prop := Bl W A 70 #[.string nm, .int .i64 root] ∧ Bl W GB 36 #[rv, nv] ∧ Bl W TKB 76 #[tv] ∧ Bl W R 66 #[.string ⟨#[]⟩, .slice none 0 0]
theorem I4.below {A GB TKB R : Nat} {nm : ByteArray} {root : Int} {rv nv tv : Value} {W W' : World} (h : I4 A GB TKB R nm root rv nv tv W) (hb : Below W.heap.size W W') : I4 A GB TKB R nm root rv nv tv W' := ⟨h.1.below hb, h.2.1.below hb, h.2.2.1.below hb, h.2.2.2.below hb⟩
theorem I4.kp {A GB TKB R base T : Nat} {nm : ByteArray} {root : Int} {rv nv tv : Value} {W W' : World} {cs : Array Value} (h : I4 A GB TKB R nm root rv nv tv W) (hT : Bl W T 4 cs) (hK : ∀ yb, Kp base T yb 64 W W') : I4 A GB TKB R nm root rv nv tv W' :=
  ⟨(hK (A + 1)).bl h.1 (h.1.ne hT (by decide)) (by omega) (by decide), (hK (GB + 1)).bl h.2.1 (h.2.1.ne hT (by decide)) (by omega) (by decide), (hK (TKB + 1)).bl h.2.2.1 (h.2.2.1.ne hT (by decide)) (by omega) (by decide), (hK (R + 1)).bl h.2.2.2 (h.2.2.2.ne hT (by decide)) (by omega) (by decide)⟩
theorem I4.cells {A GB TKB R : Nat} {nm : ByteArray} {root : Int} {rv nv tv : Value} {W : World} (h : I4 A GB TKB R nm root rv nv tv W) : W.cell? ⟨A, 0, none⟩ = some (.string nm) ∧ W.cell? ⟨A, 1, none⟩ = some (.int .i64 root) ∧ W.cell? ⟨GB, 1, none⟩ = some nv ∧ W.cell? ⟨TKB, 0, none⟩ = some tv :=
  ⟨h.1.cell rfl, h.1.cell rfl, h.2.1.cell rfl, h.2.2.1.cell rfl⟩
theorem s4_store {A GB TKB R : Nat} {u0 u1 u2 u3 x y : Value} {W : World} (h : W.cell? ⟨A, 0, none⟩ = some u0 ∧ W.cell? ⟨A, 1, none⟩ = some u1 ∧ W.cell? ⟨GB, 1, none⟩ = some u2 ∧ W.cell? ⟨TKB, 0, none⟩ = some u3) (h1 : A ≠ R) (h2 : GB ≠ R) (h3 : TKB ≠ R) :
    ((W.setCell ⟨R, 0, none⟩ x).setCell ⟨R, 1, none⟩ y).cell? ⟨A, 0, none⟩ = some u0 ∧ ((W.setCell ⟨R, 0, none⟩ x).setCell ⟨R, 1, none⟩ y).cell? ⟨A, 1, none⟩ = some u1 ∧ ((W.setCell ⟨R, 0, none⟩ x).setCell ⟨R, 1, none⟩ y).cell? ⟨GB, 1, none⟩ = some u2 ∧ ((W.setCell ⟨R, 0, none⟩ x).setCell ⟨R, 1, none⟩ y).cell? ⟨TKB, 0, none⟩ = some u3 := by
  have key : ∀ {b o : Nat} {u : Value}, b ≠ R → W.cell? ⟨b, o, none⟩ = some u → ((W.setCell ⟨R, 0, none⟩ x).setCell ⟨R, 1, none⟩ y).cell? ⟨b, o, none⟩ = some u := fun hb hu => by
    rw [World.cell?_setCell_other (h := by intro e; injection e with e _; exact hb e.symm), World.cell?_setCell_other (h := by intro e; injection e with e _; exact hb e.symm)]; exact hu
  exact ⟨key h1 h.1, key h1 h.2.1, key h2 h.2.2.1, key h3 h.2.2.2⟩
theorem ItemsCIs.mk {w0 w w1 W2 W3 : World} {T n : Nat} {nm : ByteArray} {tk' : Nat → Bool} {its : List PI} {ov x y : Value} {cs : Array Value} {base : Nat} (hw : w0.heap.size ≤ w.heap.size) (hbase : w.heap.size ≤ base) (hb1 : Below w.heap.size w w1)
    (hown : W3.ownsRow base 64 7 ov its.length (itemsC its)) (hT : Bl W3 T 4 (boolsA n tk')) (h0 : Below w0.heap.size w0 W3) (hR : Bl W3 (w.heap.size + 1) 66 cs) (hb2 : Below w1.heap.size w1 W2) (hK : ∀ yb, Kp base T yb 64 W2 W3) :
    ItemsCIs w0 T n nm tk' its w (.returned (.agg #[.string nm, ov])) ((W3.setCell ⟨w.heap.size + 1, 0, none⟩ x).setCell ⟨w.heap.size + 1, 1, none⟩ y) := by
  have hR1 := hR.set' (o := 0) x
  have hKK : ∀ yb, Kp w.heap.size T yb 64 w W3 := fun yb => by
    have hk := hK yb
    have hbW := hb1.trans (hb2.mono hb1.size)
    refine ⟨hk.os.trans hbW.os, hk.tape.trans hbW.tape, hk.output.trans hbW.output, Nat.le_trans hbW.size hk.size, fun k hk1 hk2 hk3 hk4 => ?_⟩
    rw [hk.block k (Nat.lt_of_lt_of_le hk1 hbW.size) hk2 hk3 (.inl (by omega)), hbW.block k hk1]
  have a1 := own_mono hown hbase
  have a2 := ownsRow_setCell_other a1 (a := ⟨w.heap.size + 1, 0, none⟩) (own_ne a1 hR (by decide)) x
  have a3 := ownsRow_setCell_other a2 (a := ⟨w.heap.size + 1, 1, none⟩) (own_ne a2 hR1 (by decide)) y
  have hne : T ≠ w.heap.size + 1 := hT.ne hR (by decide)
  exact ⟨ov, rfl, a3, (hT.other hne _).other hne _, (h0.setCell (p := ⟨w.heap.size + 1, 0, none⟩) (by show _ ≤ w.heap.size + 1; omega) _).setCell (p := ⟨w.heap.size + 1, 1, none⟩) (by show _ ≤ w.heap.size + 1; omega) _, fun yb => ((hKK yb).set_late (Nat.le_succ _) _).set_late (Nat.le_succ _) _⟩
set_option maxHeartbeats 8000000 in
set_option maxRecDepth 100000 in
theorem itemsC_any (w0 : World) (T GB TKB : Nat) (rv nv : Value) (ns : List PN) (cap i : Nat) (tk : Nat → Bool) (nm : ByteArray) (w : World) (hnm : nm.size ≤ 2000000) (hA : AllEx ns) (hN : NodesAt w0 nv ns) (hns : ns.length ≤ 1000000) (hi : i < ns.length) (htk : ∀ j : Nat, exL ns i < (j : Int) → j ≤ i → tk j = false)
    (hb : Below w0.heap.size w0 w) (hwT : w0.heap.size ≤ T) (hT : Bl w T 4 (boolsA ns.length tk)) (hG : Bl w GB 36 #[rv, nv]) (hTK : Bl w TKB 76 #[.slice (some ⟨T, 0, none⟩) ns.length cap]) :
    Calls Try.prog 35 #[.agg #[.string nm, .int .i64 (i : Int)], .pointer (some ⟨GB, 0, none⟩), .pointer (some ⟨TKB, 0, none⟩)] w (ItemsCIs w0 T ns.length nm (tkA tk (exL ns i) i) (itL ns i) w) := by
  obtain ⟨na, nc, rfl⟩ := hN.slice
  obtain ⟨w1, hw1⟩ : ∃ w1, (w.alloc (.cells #[.string nm, .int .i64 (i : Int)] 70)).alloc (.cells #[.string ⟨#[]⟩, .slice none 0 0] 66) = w1 := ⟨_, rfl⟩
  have hb1 : Below w.heap.size w w1 := by rw [← hw1]; exact two_new _ _ _
  have hX1 : I4 w.heap.size GB TKB (w.heap.size + 1) nm i rv (.slice na ns.length nc) (.slice (some ⟨T, 0, none⟩) ns.length cap) w1 := by
    refine ⟨?_, hG.below hb1, hTK.below hb1, ?_⟩
    · rw [← hw1]; repeat (first | (refine Bl.new' ?_; simp; done) | refine Bl.past ?_)
    · rw [← hw1]; repeat (first | (refine Bl.new' ?_; simp; done) | refine Bl.past ?_)
  have hw0 := hb.size
  have HIO := Lib.hid (fun (W : World) (hW : Below w1.heap.size w1 W) => itemsOf_any w0 T (.slice na ns.length nc) ns cap i tk W hA hN hns hi htk ((hb.trans (hb1.mono hw0)).trans (hW.mono (Nat.le_trans hw0 hb1.size))) hwT ((hT.below hb1).below hW))
  unfold ItemsOfIs at HIO
  have HT1 := Lib.hid (hT.below hb1)
  have HB1 := Lib.hid hb1
  have hw1s := hb1.size
  have HX1 := Lib.hid hX1
  have a0 := hX1.1.cell (o := 0) rfl
  have a1 := hX1.1.cell (o := 1) rfl
  have g1 := hX1.2.1.cell (o := 1) rfl
  have t0 := hX1.2.2.1.cell (o := 0) rfl
  have r0 := hX1.2.2.2.cell (o := 0) rfl
  have r1 := hX1.2.2.2.cell (o := 1) rfl
  have rf := hX1.2.2.2.free
  clear hb hT hG hTK hb1 hX1 htk hN
  go_enter Try.func35, Try.ntmps35
  go_wp2_with fail
  clear hw1
  have hS1 := HX1.out.cells
  have hAR : w.heap.size ≠ w.heap.size + 1 := by omega
  have hGR : GB ≠ w.heap.size + 1 := HX1.out.2.1.ne HX1.out.2.2.2 (by decide)
  have hTR : TKB ≠ w.heap.size + 1 := HX1.out.2.2.1.ne HX1.out.2.2.2 (by decide)
  clear a0 a1 g1 t0 r0 r1 rf
  go_region_held3 (fun W => W.cell? ⟨w.heap.size, 0, none⟩ = some (.string nm) ∧ W.cell? ⟨w.heap.size, 1, none⟩ = some (.int .i64 (i : Int)) ∧ W.cell? ⟨GB, 1, none⟩ = some (.slice na ns.length nc) ∧ W.cell? ⟨TKB, 0, none⟩ = some (.slice (some ⟨T, 0, none⟩) ns.length cap))
    (first | exact hS | exact hS1 | (refine s4_store ?_ hAR hGR hTR; assumption))
    (first
    | (go_at_call 32; (with_reducible refine (clone_any nm _ hnm).mono ?_); rintro e w4 ⟨rfl, hb4⟩; first
        | (have hX4 := HX2.out.below hb4; have HB4 := Lib.hid hb4; have hS := hX4.cells; have b4 := hX4.2.2.2.cell (o := 0) rfl; have b5 := hX4.2.2.2.cell (o := 1) rfl; have b6 := hX4.2.2.2.free; have HX4 := Lib.hid hX4; clear hb4 hX4)
        | (have hX4 := (HX1.out.below (below_drew1 w1)).below hb4; have HB4 := Lib.hid ((below_drew1 w1).trans (hb4.mono (below_drew1 w1).size)); have hS := hX4.cells; have HX4 := Lib.hid hX4; clear hb4 hX4))
    | (go_at_call 36; first
        | ((with_reducible refine (HIO.out _ HB4.out).mono ?_); rintro e w2 ⟨ov, rfl, ho2, hT2, h02, hK2⟩; obtain ⟨oa, oc, rfl⟩ := own_slice' ho2; have hX2 := HX4.out.kp (HT1.out.below HB4.out) hK2; have hS := hX2.cells; have c4 := hX2.2.2.2.cell (o := 0) rfl; have c5 := hX2.2.2.2.cell (o := 1) rfl; have c6 := hX2.2.2.2.free; have HX2 := Lib.hid hX2; have HO2 := Lib.hid ho2; have HT2 := Lib.hid hT2; have H02 := Lib.hid h02; have HK2 := Lib.hid hK2; clear ho2 hT2 h02 hK2 hX2)
        | ((with_reducible refine (HIO.out _ (below_drew1 w1)).mono ?_); rintro e w2 ⟨ov, rfl, ho2, hT2, h02, hK2⟩; obtain ⟨oa, oc, rfl⟩ := own_slice' ho2; have hX2 := (HX1.out.below (below_drew1 w1)).kp (HT1.out.below (below_drew1 w1)) hK2; have hS := hX2.cells; have HX2 := Lib.hid hX2; have HO2 := Lib.hid ho2; have HT2 := Lib.hid hT2; have H02 := Lib.hid h02; have HK2 := Lib.hid hK2; clear ho2 hT2 h02 hK2 hX2)))
  go_wp2
  have hR5 := (HX2.out.2.2.2.set' (o := 0) (.string nm)).set' (o := 1) (.slice oa (itL ns i).length oc)
  have hr0 := hR5.cell (o := 0) (u := .string nm) rfl
  have hr1 := hR5.cell (o := 1) (u := .slice oa (itL ns i).length oc) rfl
  exact bodyPost_ret (v := .agg #[.string nm, .slice oa (itL ns i).length oc]) (by simp [results, Try.results35, go_sem, hr0, hr1]) rfl (ItemsCIs.mk hw0 (Nat.le_trans hw1s HB4.out.size) HB1.out HO2.out HT2.out H02.out HX2.out.2.2.2 HB4.out HK2.out)
end
section
open Go.RowKit
theorem Kp.own_low {base xb yb : Nat} {t1 : TypeId} {w w' : World} (h : Kp base xb yb t1 w w') {b' : Nat} {e : TypeId} {size n : Nat} {v : Value} {xs : List Value} (hv : w.ownsRow b' e size v n xs) (hl : w.heap.size ≤ base) (hx : v.ownBlock ≠ some xb) (hy : v.ownBlock ≠ some yb) : w'.ownsRow b' e size v n xs := by
  obtain ⟨hlen, hv⟩ := hv
  refine ⟨hlen, ?_⟩
  rcases hv with hv | ⟨g, cap, cur, rfl, hb, hh, hr⟩
  · exact .inl hv
  · refine .inr ⟨g, cap, cur, rfl, hb, ?_, hr⟩
    have hg := (Array.getElem?_eq_some_iff.1 hh).1
    rw [h.block g hg (fun e => hx (by rw [e]; rfl)) (fun e => hy (by rw [e]; rfl)) (.inl (by omega))]
    exact hh
theorem QRow.kp {base b T : Nat} {tr ti t1 : TypeId} {v : Value} {l : List PQ} {vs : List Value} {w w' : World} {cs : Array Value} (h : QRow base tr ti v l vs w) (hT : Bl w T 4 cs) (h1 : tr ≠ 4) (h2 : ti ≠ 4) (hl : w.heap.size ≤ b) (hK : ∀ yb, Kp b T yb t1 w w') : QRow base tr ti v l vs w' := by
  have key : ∀ {e : TypeId} {u : Value} {size n : Nat} {xs : List Value}, e ≠ 4 → w.ownsRow base e size u n xs → w'.ownsRow base e size u n xs := fun he hu =>
    (hK w.heap.size).own_low hu hl (own_ne hu hT he) (own_block_lt hu (Nat.le_refl _))
  exact ⟨h.1, key h1 h.2.1, fun j q u a c => key h2 (h.2.2 j q u a c)⟩
/-- Blocks that were there stay, but for T. -/
def But (n0 T : Nat) (w w' : World) : Prop := w'.os = w.os ∧ w'.tape = w.tape ∧ w'.output = w.output ∧ w.heap.size ≤ w'.heap.size ∧ ∀ k, k < n0 → k ≠ T → w'.heap[k]? = w.heap[k]?
theorem But.refl (n0 T : Nat) (w : World) : But n0 T w w := ⟨rfl, rfl, rfl, Nat.le_refl _, fun _ _ _ => rfl⟩
theorem But.trans {n0 T : Nat} {a b c : World} (h : But n0 T a b) (k : But n0 T b c) : But n0 T a c :=
  ⟨k.1.trans h.1, k.2.1.trans h.2.1, k.2.2.1.trans h.2.2.1, Nat.le_trans h.2.2.2.1 k.2.2.2.1, fun i hi ht => (k.2.2.2.2 i hi ht).trans (h.2.2.2.2 i hi ht)⟩
theorem But.of_below {n0 T : Nat} {a b : World} (h : Below n0 a b) : But n0 T a b := ⟨h.os, h.tape, h.output, h.size, fun k hk _ => h.block k hk⟩
theorem But.of_kp {n0 T base : Nat} {t1 : TypeId} {a b : World} (h : ∀ yb, Kp base T yb t1 a b) (hb : n0 ≤ base) (ha : n0 ≤ a.heap.size) : But n0 T a b :=
  ⟨(h 0).os, (h 0).tape, (h 0).output, (h 0).size, fun k hk ht => (h (k + 1)).block k (by omega) ht (by omega) (.inl (by omega))⟩
theorem But.grown {n0 T : Nat} {a b c : World} {r : Option Nat} (h : But n0 T a b) (hg : b.grownBy c r) (hn : n0 ≤ b.heap.size) (hr : ∀ g, r = some g → n0 ≤ g) : But n0 T a c :=
  h.trans ⟨hg.os, hg.tape, hg.output, hg.size, fun k hk _ => hg.block k (by omega) (fun e => by have := hr k e.symm; omega)⟩
theorem But.bl {n0 T b : Nat} {t : TypeId} {cs : Array Value} {w w' : World} (h : But n0 T w w') (hv : Bl w b t cs) (hb : b < n0) (ht : b ≠ T) : Bl w' b t cs := by
  unfold Bl; rw [h.2.2.2.2 b hb ht]; exact hv
/-- The state of the loop over the rules. -/
def EIS (w0 : World) (T : Nat) (rs : List PR) (ns : List PN) (w : World) (k : Nat) (tv : Value) (wr : World) : Prop :=
  ∃ (vs : List Value) (tk : Nat → Bool) (b : Int), (∀ j, tk j = true → (j : Int) ≤ b) ∧ -1 ≤ b ∧ ordR ns (rs.drop k) b = true ∧ QRow w.heap.size 66 64 tv (itemsR (rs.take k) ns) vs wr ∧ Bl wr T 4 (boolsA ns.length tk) ∧ Below w0.heap.size w0 wr ∧ But w.heap.size T w wr
theorem itemsR_length (rs : List PR) (ns : List PN) : (itemsR rs ns).length = rs.length := by unfold itemsR; rw [List.length_map]
theorem tkA_le {tk : Nat → Bool} {b lo hi : Int} (h : ∀ j, tk j = true → (j : Int) ≤ b) (hb : b ≤ hi) : ∀ j, tkA tk lo hi j = true → (j : Int) ≤ hi := fun j hj => by
  unfold tkA at hj
  rw [Bool.or_eq_true, Bool.and_eq_true, decide_eq_true_eq, decide_eq_true_eq] at hj
  rcases hj with hj | hj
  · have := h j hj; omega
  · exact hj.2
theorem EIS.step {w0 w wr w2 w5 : World} {T k : Nat} {rs : List PR} {ns : List PN} {r : PR} {tk : Nat → Bool} {b : Int} {vs : List Value} {tv tv' ov : Value} {o : Obj} {cs : Array Value} (hr : rs[k]? = some r) (hkl : (rs.take k).length = k) (htk : ∀ j, tk j = true → (j : Int) ≤ b) (hb1 : -1 ≤ b) (hord : ordR ns (rs.drop k) b = true)
    (hQ : QRow w.heap.size 66 64 tv (itemsR (rs.take k) ns) vs wr) (hB : But w.heap.size T w wr) (hT0 : Bl wr T 4 cs) (hw0 : w0.heap.size ≤ w.heap.size)
    (ho : w2.ownsRow (wr.alloc o).heap.size 64 7 ov (itL ns r.root).length (itemsC (itL ns r.root))) (hT : Bl w2 T 4 (boolsA ns.length (tkA tk b r.root))) (h0 : Below w0.heap.size w0 w2) (hK : ∀ yb, Kp (wr.alloc o).heap.size T yb 64 (wr.alloc o) w2) {o2 : Obj}
    (hown : w5.ownsRow w.heap.size 66 2 tv' (k + 1) (rulesQ ((itemsR (rs.take k) ns).zip vs) ++ [.string r.name, ov])) (hg : (w2.alloc o2).grownBy w5 tv.ownBlock) : EIS w0 T rs ns w (k + 1) tv' w5 := by
  have hwr := hB.2.2.2.1
  have hd : rs.drop k = r :: rs.drop (k + 1) := by
    obtain ⟨a1, a2⟩ := List.getElem?_eq_some_iff.1 hr
    rw [List.drop_eq_getElem_cons a1, a2]
  rw [hd] at hord
  obtain ⟨h1, h2, h3, h4⟩ := ordR_cons hord
  have hone := one_new wr o
  have hQ2 := (hQ.grown hone).kp (hT0.below hone) (by decide) (by decide) (Nat.le_refl _) hK
  have hQ3 := hQ2.grown (one_new w2 o2)
  have hkind : ∀ g, tv.ownBlock = some g → ∃ c fz, (w2.alloc o2).heap[g]? = some (.cells c 66 fz) := fun g hv => Lib.ownsRow_kind hQ3.2.1 g hv
  have hsz : w.heap.size ≤ (wr.alloc o).heap.size := Nat.le_trans hwr hone.size
  refine ⟨vs ++ [ov], tkA tk b r.root, r.root, tkA_le htk (by omega), by omega, h4, ?_, (hT.below (one_new w2 o2)).grown hg (fun g e => by obtain ⟨c, fz, hc⟩ := hkind g e; exact ⟨c, _, fz, hc, by decide⟩), ?_, ?_⟩
  · have e : itemsR (rs.take (k + 1)) ns = itemsR (rs.take k) ns ++ [⟨r.name, itL ns r.root⟩] := by
      rw [take_snoc' rs k r hr]; unfold itemsR; rw [List.map_append]; rfl
    rw [e]
    exact hQ3.step (q := ⟨r.name, itL ns r.root⟩) (by decide) (own_mono (ownsRow_grown ho (one_new w2 o2)) hsz) (by rw [itemsR_length, hkl]; exact hown) hg
  · have := h0.trans ((one_new w2 o2).mono h0.size)
    exact this.grown hg this.size (fun g e => Nat.le_trans hw0 (hQ.2.1.lt g e).1)
  · refine (((hB.trans (But.of_below (hone.mono hwr))).trans (But.of_kp hK hsz hsz)).trans (But.of_below ((one_new w2 o2).mono ?_))).grown hg ?_ (fun g e => (hQ.2.1.lt g e).1)
    · exact Nat.le_trans hsz (hK 0).size
    · exact Nat.le_trans (Nat.le_trans hsz (hK 0).size) (one_new w2 o2).size
set_option maxHeartbeats 8000000 in
set_option maxRecDepth 100000 in
theorem eachItems_any (w0 : World) (T GB TKB : Nat) (rv nv : Value) (rs : List PR) (ns : List PN) (cap : Nat) (w : World) (hR : RulesIn w0 rv rs) (hrs : rs.length ≤ 1000000) (hnm : ∀ r, r ∈ rs → r.name.size ≤ 2000000) (hO : ordR ns rs (-1) = true) (hN : NodesAt w0 nv ns) (hns : ns.length ≤ 1000000)
    (hb : Below w0.heap.size w0 w) (hwT : w0.heap.size ≤ T) (hT : Bl w T 4 (boolsA ns.length (fun _ => false))) (hG : Bl w GB 36 #[rv, nv]) (hTK : Bl w TKB 76 #[.slice (some ⟨T, 0, none⟩) ns.length cap]) :
    Calls Try.prog 34 #[.slice none 0 0, rv, .func (.func 35) #[] #[.pointer (some ⟨GB, 0, none⟩), .pointer (some ⟨TKB, 0, none⟩)]] w (fun e w' => ∃ tv, e = .returned tv ∧ EIS w0 T rs ns w rs.length tv w') := by
  obtain ⟨-, ra, rc, rfl, hra⟩ := hR
  have hA := ordR_ex hO
  have hst : EIS w0 T rs ns w 0 (.slice none 0 0) w := ⟨[], fun _ => false, -1, fun j h => (nomatch h), Int.le_refl _, by rw [List.drop_zero]; exact hO, by rw [List.take_zero]; exact QRow.nil _ _ _ _, hT, hb, But.refl _ _ _⟩
  have HST := Lib.hid hst
  have hw0 := hb.size
  have HG := Lib.hid hG
  have HTK := Lib.hid hTK
  have hgT : GB ≠ T := hG.ne hT (by decide)
  have htT : TKB ≠ T := hTK.ne hT (by decide)
  have hgl := hG.lt
  have htl := hTK.lt
  have HNM := Lib.hid hnm
  obtain ⟨ii, hii, hz0, hz1, hz2⟩ := info_parts infoBRule
  clear hst hb hT hG hTK hnm
  go_enter Try.func34, Try.ntmps34
  go_wp2
  go_loopw [11, 0] (fun vc vt wr => ∃ k : Nat, k ≤ rs.length ∧ vc = .int .i64 k ∧ EIS w0 T rs ns w k vt wr) (fun vc _ _ => rs.length - (intOf vc).toNat)
  case atStart => exact ⟨0, Nat.zero_le _, rfl, HST.out⟩
  case round =>
    clear HST
    obtain ⟨k, hk, rfl, hS⟩ := hrel
    have hkl : (rs.take k).length = k := by rw [List.length_take]; omega
    by_cases hlt : k < rs.length
    · obtain ⟨r, hr⟩ : ∃ r, rs[k]? = some r := ⟨_, List.getElem?_eq_getElem hlt⟩
      obtain ⟨vs, tk, b, h1, h2, h3, h4, h5, h6, h7⟩ := hS
      rcases hra with h0 | ⟨rb, ro, rfl, hca⟩
      · rw [h0] at hlt; exact absurd hlt (Nat.not_lt_zero _)
      obtain ⟨c0, c1⟩ := (hca k r hr).kept h6 (Nat.le_refl _)
      have hd : rs.drop k = r :: rs.drop (k + 1) := by
        obtain ⟨a1, a2⟩ := List.getElem?_eq_some_iff.1 hr
        rw [List.drop_eq_getElem_cons a1, a2]
      obtain ⟨g1, g2, g3, -⟩ := ordR_cons (show ordR ns (r :: rs.drop (k + 1)) b = true by rw [← hd]; exact h3)
      obtain ⟨i, hi⟩ : ∃ i : Nat, r.root = i := ⟨r.root.toNat, by omega⟩
      obtain ⟨ta, tc, rfl⟩ := own_slice' h4.2.1
      rw [itemsR_length, hkl] at h4 ⊢
      have hone := one_new wr (.cells #[.string r.name, .int .i64 r.root] 70)
      have hwr := h7.2.2.2.1
      have hC := Lib.hid (itemsC_any w0 T GB TKB (.slice (some ⟨rb, ro, none⟩) rs.length rc) nv ns cap i tk r.name _ (HNM.out r (List.mem_of_getElem? hr)) hA hN hns (by omega) (fun j j1 j2 => by
        cases ht : tk j with
        | false => rfl
        | true => have := h1 j ht; rw [hi] at g3; omega) (h6.trans (hone.mono h6.size)) hwT (h5.below hone) ((h7.bl HG.out hgl hgT).below hone) ((h7.bl HTK.out htl htT).below hone))
      rw [← hi, g3] at hC
      unfold ItemsCIs at hC
      have k1 : (k : Int) < (rs.length : Int) := by omega
      have HR := Lib.hid hr
      have H1 := Lib.hid h1
      have H3 := Lib.hid h3
      have H4 := Lib.hid h4
      have H5 := Lib.hid h5
      have H7 := Lib.hid h7
      have HKL := Lib.hid hkl
      have HT4 := Lib.hid (show (wr.alloc (.cells #[.string r.name, .int .i64 r.root] 70)).ownsRow w.heap.size 66 2 (.slice ta k tc) k (rulesQ ((itemsR (rs.take k) ns).zip vs)) by have := (h4.grown hone).2.1; rw [itemsR_length, hkl] at this; exact this)
      have HT5 := Lib.hid (h5.below hone)
      have hos := hone.size
      clear h1 h3 h4 h5 h6 h7 hd g1 g2 g3 hr hone hkl hca hi
      go_wp2_with (first
        | (go_at_call 35; (with_reducible refine hC.out.mono ?_); rintro e w2 ⟨ov, rfl, ho2, hT2, h02, hK2⟩; obtain ⟨oa, oc, rfl⟩ := own_slice' ho2; have HO2 := Lib.hid ho2; have HT2 := Lib.hid hT2; have H02 := Lib.hid h02; have HK2 := Lib.hid hK2; have HTT := Lib.hid ((hK2 (wr.alloc (.cells #[.string r.name, .int .i64 r.root] 70)).heap.size).own_low HT4.out (Nat.le_refl _) (own_ne HT4.out HT5.out (by decide)) (own_block_lt HT4.out (Nat.le_refl _))); have hsz2 := (hK2 0).size; clear ho2 hT2 h02 hK2)
        | (at_builtin; refine wpList_append_own _ rfl _ _ 39 rfl w.heap.size 66 ii _ 2 40 Try.underlying39 hii hz0 hz1 hz2 rfl (by decide) _ k _ rfl (ownsRow_grown HTT.out (one_new _ _)) ⟨w2.heap.size, 0, none⟩ 1 1 [.string r.name, .slice oa (itL ns r.root).length oc] rfl rfl (cell_row_one w2 _ _) (by simp [Value.oneCell']) (by unfold maxLen; omega) (by omega) (by simp at hsz2; simp; omega) ?_; intro v5 w5 hown' hgrow _; have HO5 := Lib.hid hown'; have HG5 := Lib.hid hgrow; clear hown' hgrow))
      go_roundw
      case rel => exact ⟨k + 1, by omega, by go_num, EIS.step HR.out HKL.out H1.out h2 H3.out H4.out H7.out H5.out hw0 HO2.out HT2.out H02.out HK2.out HO5.out HG5.out⟩
      case measure => simp [intOf]; omega
    · obtain rfl : k = rs.length := by omega
      have k1 : ¬ (rs.length : Int) < (rs.length : Int) := by omega
      have HS := Lib.hid hS
      clear hS
      go_wp2
      go_ret
      exact ⟨_, rfl, HS.out⟩
theorem boolsA_made (n : Nat) : madeCells #[.bool false] n = boolsA n (fun _ => false) := by
  unfold boolsA madeCells
  apply Array.ext
  · simp
  · intro i h1 h2
    simp [Nat.mod_one]
theorem infoBool : (Try.prog.info? 4).map (fun i => (i.zero, i.size, i.bytes)) = some (some (.bool false), 1, 1) := by kernel_rfl
set_option maxHeartbeats 4000000 in
set_option maxRecDepth 100000 in
/-- The program's Items of a grammar in post-order. -/
theorem items_any (rv nv : Value) (rs : List PR) (ns : List PN) (w : World) (hR : RulesIn w rv rs) (hN : NodesAt w nv ns) (hrs : rs.length ≤ 1000000) (hns : ns.length ≤ 1000000) (hnm : ∀ r, r ∈ rs → r.name.size ≤ 2000000) (hO : ordR ns rs (-1) = true) :
    Calls Try.prog 15 #[.agg #[rv, nv]] w (BackIs 66 64 (itemsR rs ns) w) := by
  obtain ⟨na, nc, rfl⟩ := hN.slice
  have hR' := hR
  obtain ⟨-, ra, rc, rfl, -⟩ := hR'
  have hmk := fun w => run_make_row' (P := Try.prog) 76 4 (.bool false) 1 Try.underlying76 infoBool rfl .i64 .i64 ns.length (by omega) (by omega) w
  have hmf : ∀ (fn : Fn) (first cap : Array Value) (w : World), (Instr.makeFunc fn first cap).run Try.prog w = .ok (.func fn first cap) w := fun _ _ _ _ => rfl
  obtain ⟨W, hW⟩ : ∃ W, ((w.alloc (.cells #[.slice ra rs.length rc, .slice na ns.length nc] 36)).alloc (.cells (madeCells #[.bool false] ns.length) 4)).alloc (.cells #[.slice (some ⟨w.heap.size + 1, 0, none⟩) ns.length ns.length] 76) = W := ⟨_, rfl⟩
  have hb3 : Below w.heap.size w W := by rw [← hW]; exact (two_new w _ _).alloc (by simp; omega) _
  have b0 : Bl W w.heap.size 36 #[.slice ra rs.length rc, .slice na ns.length nc] := by rw [← hW]; repeat (first | (refine Bl.new' ?_; simp; done) | refine Bl.past ?_)
  have b1 : Bl W (w.heap.size + 1) 4 (boolsA ns.length (fun _ => false)) := by rw [← hW, ← boolsA_made]; repeat (first | (refine Bl.new' ?_; simp; done) | refine Bl.past ?_)
  have b2 : Bl W (w.heap.size + 1 + 1) 76 #[.slice (some ⟨w.heap.size + 1, 0, none⟩) ns.length ns.length] := by rw [← hW]; repeat (first | (refine Bl.new' ?_; simp; done) | refine Bl.past ?_)
  have hC := Lib.hid (eachItems_any w (w.heap.size + 1) w.heap.size (w.heap.size + 1 + 1) _ _ rs ns ns.length W hR hrs hnm hO hN hns hb3 (Nat.le_succ _) b1 b0 b2)
  have HB3 := Lib.hid hb3
  have c0 := b0.cell (o := 0) rfl
  clear hb3 b0 b1 b2 hR hN hnm
  go_enter Try.func15, Try.ntmps15
  go_wp2_with (go_at_call 34; (with_reducible refine hC.out.mono ?_); rintro e w2 ⟨tv, rfl, hE⟩; have HE := Lib.hid hE; clear hE)
  go_ret
  obtain ⟨vs, tk, b, -, -, -, hq, -, h0, -⟩ := HE.out
  rw [List.take_length] at hq
  exact ⟨_, vs, rfl, hq.mono HB3.out.size, h0⟩
end
end Go.Proofs.Ytnebdnonkefloaa
