/- The reference's Of. -/
import Derived.Test.YtnebdnonkefloaaBuildOne
import Derived.Test.YtnebdnonkefloaaBuildRows
import Derived.Deep.RegionLaw
namespace Go.Proofs.Ytnebdnonkefloaa
open Go.RowKit
/-- What Of returns. -/
def OfIs (o : Option (List PR × List PN)) (w : World) (e : Ending) (w' : World) : Prop :=
  match o with
  | none => OfNo w e w'
  | some (rs, ns) => OfYes rs ns w e w'
theorem OfIs.no {o : Option (List PR × List PN)} {w w' : World} (h : o = none) (hb : Below w.heap.size w w') : OfIs o w (.returned (.tuple #[.agg #[.slice none 0 0, .slice none 0 0], .bool false])) w' := by
  subst h; exact ⟨rfl, hb⟩
def ROfS (w : World) (l : List PQ) (res : Option (List PR × List PN)) (k : Nat) (wr : World) : Prop :=
  ∃ (rv nv : Value) (nsk : List PN) (qsk : List Value) (rsk : List PR), ofL (l.drop k) nsk rsk = res ∧ nsk.length + sumI (l.drop k) ≤ 1000000 ∧ rsk.length = k ∧ Bl wr w.heap.size 36 #[.slice none 0 0, .slice none 0 0] ∧ Bl wr (w.heap.size + 1) 36 #[rv, nv] ∧
    NRow w.heap.size nv nsk qsk wr ∧ wr.ownsRow w.heap.size 70 2 rv k (rulesC rsk) ∧ Below w.heap.size w wr
theorem keepS {b1 o1 b2 o2 n0 : Nat} {u1 u2 : Value} {w W W' : World} (h : W.cell? ⟨b1, o1, none⟩ = some u1 ∧ W.cell? ⟨b2, o2, none⟩ = some u2 ∧ Below n0 w W) (hb : Below W.heap.size W W') (hn : n0 = w.heap.size) :
    W'.cell? ⟨b1, o1, none⟩ = some u1 ∧ W'.cell? ⟨b2, o2, none⟩ = some u2 ∧ Below n0 w W' :=
  ⟨by rw [(bcell hb).1 _ _ (lt_of_cell h.1)]; exact h.1, by rw [(bcell hb).1 _ _ (lt_of_cell h.2.1)]; exact h.2.1, below_trans' h.2.2 hn hb⟩
theorem below_of2 {A B : Prop} {n0 : Nat} {w W : World} (h : A ∧ B ∧ Below n0 w W) : Below n0 w W := h.2.2
theorem own_of {base : Nat} {e : TypeId} {size n n1 : Nat} {v : Value} {xs : List Value} {wr W : World} (h : wr.ownsRow base e size v n xs) (hn : n1 = wr.heap.size) (hb : Below n1 wr W) : W.ownsRow base e size v n xs := by
  subst hn; exact ownsRow_grown h hb
theorem bl_of {b n1 : Nat} {t : TypeId} {cs : Array Value} {wr W : World} (h : Bl wr b t cs) (hn : n1 = wr.heap.size) (hb : Below n1 wr W) : Bl W b t cs := by
  subst hn; exact h.below hb
theorem nrow_of {base n1 : Nat} {v : Value} {ns : List PN} {qs : List Value} {wr W : World} (h : NRow base v ns qs wr) (hn : n1 = wr.heap.size) (hb : Below n1 wr W) : NRow base v ns qs W := by
  subst hn; exact h.grown hb
theorem ROfS.step {w w2 W w5 : World} {l : List PQ} {res : Option (List PR × List PN)} {k n1 : Nat} {rv nv rv' : Value} {ns1 : List PN} {qs1 : List Value} {rsk : List PR} {nm : ByteArray} {z : Int}
    (h1 : ofL (l.drop (k + 1)) ns1 (rsk ++ [PR.mk nm z]) = res) (hbd : ns1.length + sumI (l.drop (k + 1)) ≤ 1000000) (hk : rsk.length = k) (hR : Bl w2 w.heap.size 36 #[.slice none 0 0, .slice none 0 0]) (hG : Bl w2 (w.heap.size + 1) 36 #[rv, nv])
    (hN : NRow w.heap.size nv ns1 qs1 w2) (hT : w2.ownsRow w.heap.size 70 2 rv k (rulesC rsk)) (hB : Below w.heap.size w w2) (hn1 : n1 = w2.heap.size) (hb : Below n1 w2 W)
    (hown : w5.ownsRow w.heap.size 70 2 rv' (k + 1) (rulesC rsk ++ [.string nm, .int .i64 z])) (hg : W.grownBy w5 rv.ownBlock) : ROfS w l res (k + 1) (w5.setCell ⟨w.heap.size + 1, 0, none⟩ rv') := by
  have hT3 := own_of hT hn1 hb
  have kind : ∀ g, rv.ownBlock = some g → ∃ c fz, W.heap[g]? = some (.cells c 70 fz) := fun g hv => Lib.ownsRow_kind hT3 g hv
  have kb : ∀ {b : Nat} {cs : Array Value}, Bl w2 b 36 cs → Bl w5 b 36 cs := fun h => (bl_of h hn1 hb).grown hg (fun g e => by obtain ⟨c, fz, hc⟩ := kind g e; exact ⟨c, _, fz, hc, by decide⟩)
  have hR5 := kb hR
  have hG5 := kb hG
  have hN5 := (nrow_of hN hn1 hb).grown_typ hg kind (by decide) (by decide)
  subst hn1
  have hBW := hB.trans (hb.mono hB.size)
  refine ⟨rv', nv, ns1, qs1, rsk ++ [PR.mk nm z], h1, hbd, by rw [List.length_append, hk]; rfl, hR5.other (by omega) _, hG5.set' _, hN5.set_typ hG5 (by decide) (by decide) _, ?_, (hBW.grown hg hBW.size (fun g e => (hT.lt g e).1)).setCell (p := ⟨w.heap.size + 1, 0, none⟩) (Nat.le_succ _) _⟩
  have := ownsRow_setCell_other hown (a := ⟨w.heap.size + 1, 0, none⟩) (own_ne hown hG5 (by decide)) rv'
  unfold rulesC at this ⊢
  rw [List.flatMap_append]; exact this
set_option maxHeartbeats 8000000 in
set_option maxRecDepth 100000 in
theorem r6of_any (lv : Value) (l : List PQ) (w : World) (hL : QsAt w lv l) (hl : l.length ≤ 1000000) (hbd : sumI l ≤ 1000000) : Calls Try.prog 12 #[lv] w (OfIs (ofL l [] []) w) := by
  obtain ⟨la, lc, rfl⟩ := hL.slice
  obtain ⟨ir, hir, hzr0, hzr1, hzr2⟩ := info_parts infoRule
  have HL := Lib.hid hL
  have hb2 := two_new w (.cells #[.slice none 0 0, .slice none 0 0] 36) (.cells #[.slice none 0 0, .slice none 0 0] 36)
  have hG0 : Bl ((w.alloc (.cells #[.slice none 0 0, .slice none 0 0] 36)).alloc (.cells #[.slice none 0 0, .slice none 0 0] 36)) (w.heap.size + 1) 36 #[.slice none 0 0, .slice none 0 0] := by
    have := Bl.new (w.alloc (.cells #[.slice none 0 0, .slice none 0 0] 36)) 36 #[.slice none 0 0, .slice none 0 0]
    simpa using this
  have HST : Hid (ROfS w l (ofL l [] []) 0 _) := Lib.hid ⟨_, _, [], [], [], by rw [List.drop_zero], by rw [List.drop_zero]; simpa using hbd, rfl, (Bl.new w _ _).below (one_new _ _), hG0, NRow.nil _ _, World.ownsRow_nil _ _ _ _, hb2⟩
  clear hL hb2 hG0 hbd
  go_enter Try.func12, Try.ntmps12
  go_wp2
  go_loopw [5] (fun c wr => ∃ k : Nat, k ≤ l.length ∧ c = .int .i64 k ∧ ROfS w l (ofL l [] []) k wr) (fun c _ => l.length - (intOf c).toNat)
  case atStart => exact ⟨0, Nat.zero_le _, rfl, HST.out⟩
  case round =>
    obtain ⟨k, hk, rfl, rv, nv, nsk, qsk, rsk, h1, hbd, hrk, hR, hG, hN, hT, hB⟩ := hrel
    clear HST
    obtain ⟨ra, rc, rfl⟩ := own_slice' hT
    obtain ⟨na, nc, rfl⟩ := own_slice' hN.2.1
    by_cases hlt : k < l.length
    · obtain ⟨q, hq⟩ : ∃ q, l[k]? = some q := ⟨_, List.getElem?_eq_getElem hlt⟩
      obtain ⟨b, off, ia, ic, rfl, d0, d1, ci⟩ := HL.out.at hq
      have hd : l.drop k = q :: l.drop (k + 1) := by
        obtain ⟨a1, a2⟩ := List.getElem?_eq_some_iff.1 hq
        rw [List.drop_eq_getElem_cons a1, a2]
      have hsum : sumI (q :: l.drop (k + 1)) = q.items.length + sumI (l.drop (k + 1)) := by unfold sumI; rw [List.map_cons, List.sum_cons]
      rw [hd] at h1 hbd
      rw [hsum] at hbd
      have k1 : (k : Int) < (l.length : Int) := by omega
      obtain ⟨n0, hn0⟩ : ∃ n0, n0 = w.heap.size := ⟨_, rfl⟩
      obtain ⟨n1, hn1⟩ : ∃ n1, n1 = wr.heap.size := ⟨_, rfl⟩
      have hS0 : wr.cell? ⟨w.heap.size + 1, 1, none⟩ = some (.slice na nsk.length nc) ∧ wr.cell? ⟨b, off + k * 2 + 1, none⟩ = some (.slice ia q.items.length ic) ∧ Below n1 wr wr :=
        ⟨hG.cell rfl, by rw [(bcell hB).1 _ _ (lt_of_cell d1)]; exact d1, Below.refl _ _⟩
      have HCO := Lib.hid (fun (W : World) (hW : Below n1 wr W) => one_any w (q.items.length + 1) (.slice na nsk.length nc) (.slice ia q.items.length ic) nsk qsk q.items W (Nat.lt_succ_self _) (hB.trans ((hn1 ▸ hW).mono hB.size)) (nrow_of hN hn1 hW) ci (by omega))
      unfold OneIs at HCO
      have HR := Lib.hid hR
      have HG := Lib.hid hG
      have HN := Lib.hid hN
      have HT := Lib.hid hT
      have HB := Lib.hid hB
      have HD0 := Lib.hid d0
      clear hR hG hN hT hB d0 d1 ci hd hsum hq
      cases ho : oneL nsk q.items with
      | none =>
        rw [ofL_none ho] at h1
        rw [ho] at HCO
        have HR1 := Lib.hid h1.symm
        clear h1 ho hbd
        go_wp2
        go_region_held3 (fun W => W.cell? ⟨w.heap.size + 1, 1, none⟩ = some (.slice na nsk.length nc) ∧ W.cell? ⟨b, off + k * 2 + 1, none⟩ = some (.slice ia q.items.length ic) ∧ Below n1 wr W)
          (first | exact hS | exact hS0 | (refine keepS ?_ (below_drew1 _) hn1; assumption) | (refine keepS ?_ (one_new _ _) hn1; assumption))
          (first
            | (go_at_call 33; (with_reducible refine (HCO.out _ (below_of2 (by assumption))).mono ?_); rintro e w2 ⟨⟨a3, n3, c3, rfl⟩, hb2⟩; have hB2 := below_trans' (below_of2 (by assumption)) hn1 hb2; have hS := keepS (by assumption) hb2 hn1))
        have hr2 := bl_of HR.out hn1 hB2
        have hbf := HB.out.trans ((hn1 ▸ hB2).mono HB.out.size)
        have r0 := hr2.cell (o := 0) rfl
        have r1 := hr2.cell (o := 1) rfl
        have rf := hr2.free
        have HR2 := Lib.hid hr2
        have HBF := Lib.hid hbf
        clear hB2 hr2 hbf hb2
        go_wp2
        have hR5 := (HR2.out.set' (o := 0) (.slice none 0 0)).set' (o := 1) (.slice none 0 0)
        have hr0 := hR5.cell (o := 0) (u := .slice none 0 0) rfl
        have hr1 := hR5.cell (o := 1) (u := .slice none 0 0) rfl
        refine bodyPost_ret (v := .tuple #[.agg #[.slice none 0 0, .slice none 0 0], .bool false]) (by simp [results, Try.results12, go_sem, hr0, hr1]) rfl (OfIs.no HR1.out ?_)
        exact (HBF.out.setCell (p := ⟨w.heap.size, 0, none⟩) (Nat.le_refl _) _).setCell (p := ⟨w.heap.size, 1, none⟩) (Nat.le_refl _) _
      | some y =>
        obtain ⟨ns1, l1⟩ := y
        rw [ho] at HCO
        cases l1 with
        | cons p1 l1 =>
          rw [ofL_more ho (by simp)] at h1
          have HR1 := Lib.hid h1.symm
          have k2 : (0 : Int) < (((p1 :: l1).length : Nat) : Int) := by rw [List.length_cons]; omega
          clear h1 ho hbd
          go_wp2
          go_region_held3 (fun W => W.cell? ⟨w.heap.size + 1, 1, none⟩ = some (.slice na nsk.length nc) ∧ W.cell? ⟨b, off + k * 2 + 1, none⟩ = some (.slice ia q.items.length ic) ∧ Below n1 wr W)
            (first | exact hS | exact hS0 | (refine keepS ?_ (below_drew1 _) hn1; assumption) | (refine keepS ?_ (one_new _ _) hn1; assumption))
            (first
              | (go_at_call 33; (with_reducible refine (HCO.out _ (below_of2 (by assumption))).mono ?_); rintro e w2 ⟨⟨na2, nc2, la2, lc2, t2, rfl, hN2, -, -, -⟩, hb2⟩; have hB2 := below_trans' (below_of2 (by assumption)) hn1 hb2; have hS := keepS (by assumption) hb2 hn1))
          have hr2 := bl_of HR.out hn1 hB2
          have hbf := HB.out.trans ((hn1 ▸ hB2).mono HB.out.size)
          have r0 := hr2.cell (o := 0) rfl
          have r1 := hr2.cell (o := 1) rfl
          have rf := hr2.free
          have HR2 := Lib.hid hr2
          have HBF := Lib.hid hbf
          clear hB2 hr2 hbf hb2
          go_wp2
          have hR5 := (HR2.out.set' (o := 0) (.slice none 0 0)).set' (o := 1) (.slice none 0 0)
          have hr0 := hR5.cell (o := 0) (u := .slice none 0 0) rfl
          have hr1 := hR5.cell (o := 1) (u := .slice none 0 0) rfl
          refine bodyPost_ret (v := .tuple #[.agg #[.slice none 0 0, .slice none 0 0], .bool false]) (by simp [results, Try.results12, go_sem, hr0, hr1]) rfl (OfIs.no HR1.out ?_)
          exact (HBF.out.setCell (p := ⟨w.heap.size, 0, none⟩) (Nat.le_refl _) _).setCell (p := ⟨w.heap.size, 1, none⟩) (Nat.le_refl _) _
        | nil =>
          rw [ofL_step ho] at h1
          have hnb : ns1.length + sumI (l.drop (k + 1)) ≤ 1000000 := by
            obtain ⟨d, m, f1, f2, f3, -⟩ := oneL_cut ho
            have := congrArg List.length f1
            rw [List.length_append] at this
            rw [f2, List.length_append]; omega
          have hnb1 : (ns1.length : Int) ≤ 1000000 := by omega
          have HNB := Lib.hid hnb
          have HH1 := Lib.hid h1
          clear h1 ho hbd hnb
          go_wp2
          go_region_held3 (fun W => W.cell? ⟨w.heap.size + 1, 1, none⟩ = some (.slice na nsk.length nc) ∧ W.cell? ⟨b, off + k * 2 + 1, none⟩ = some (.slice ia q.items.length ic) ∧ Below n1 wr W)
            (first | exact hS | exact hS0 | (refine keepS ?_ (below_drew1 _) hn1; assumption) | (refine keepS ?_ (one_new _ _) hn1; assumption))
            (first
              | (go_at_call 33; (with_reducible refine (HCO.out _ (below_of2 (by assumption))).mono ?_); rintro e w2 ⟨⟨na2, nc2, la2, lc2, t2, rfl, hN2, -, -, -⟩, hb2⟩; have hB2 := below_trans' (below_of2 (by assumption)) hn1 hb2; have HN2 := Lib.hid hN2; have hS := keepS (by assumption) hb2 hn1))
          have hr2 := bl_of HR.out hn1 hB2
          have hg2 := bl_of HG.out hn1 hB2
          have hbf := HB.out.trans ((hn1 ▸ hB2).mono HB.out.size)
          have ht2 := own_of HT.out hn1 hB2
          have g0 := hg2.cell (o := 0) rfl
          have g1 := hg2.cell (o := 1) rfl
          have gf := hg2.free
          have gl := hg2.lt
          have HR2 := Lib.hid hr2
          have HG2 := Lib.hid hg2
          have HBF := Lib.hid hbf
          have HT2 := Lib.hid ht2
          clear hB2 hr2 hg2 hbf hb2 ht2 HR HG HN HT HB HCO hS0 hn1
          go_wp2
          obtain ⟨W3, hW3⟩ : ∃ W3, w2.setCell ⟨w.heap.size + 1, 1, none⟩ (.slice na2 ns1.length nc2) = W3 := ⟨_, rfl⟩
          have hr3 : Bl W3 w.heap.size 36 #[.slice none 0 0, .slice none 0 0] := by rw [← hW3]; exact HR2.out.other (by omega) _
          have hg3 : Bl W3 (w.heap.size + 1) 36 #[.slice ra k rc, .slice na2 ns1.length nc2] := by rw [← hW3]; exact HG2.out.set' _
          have hn3 : NRow w.heap.size (.slice na2 ns1.length nc2) ns1 (qsk ++ t2) W3 := by rw [← hW3]; exact HN2.out.set_typ HG2.out (by decide) (by decide) _
          have ht3 : W3.ownsRow w.heap.size 70 2 (.slice ra k rc) k (rulesC rsk) := by rw [← hW3]; exact ownsRow_setCell_other HT2.out (a := ⟨w.heap.size + 1, 1, none⟩) (own_ne HT2.out HG2.out (by decide)) _
          have hb3 : Below w.heap.size w W3 := by rw [← hW3]; exact HBF.out.setCell (p := ⟨w.heap.size + 1, 1, none⟩) (Nat.le_succ _) _
          obtain ⟨n3, hn3'⟩ : ∃ n3, n3 = W3.heap.size := ⟨_, rfl⟩
          rw [hW3]
          have s0 : W3.cell? ⟨w.heap.size + 1, 0, none⟩ = some (.slice ra k rc) := hg3.cell rfl
          have s1 : W3.cell? ⟨b, off + k * 2, none⟩ = some (.string q.name) := by rw [(bcell hb3).1 _ _ (lt_of_cell HD0.out)]; exact HD0.out
          have hw3 := hb3.size
          have g3l := hg3.lt
          have b3l := lt_of_cell s1
          have qw : IntKind.i64.wrap ((ns1.length : Int) - 1) = (ns1.length : Int) - 1 := by rw [IntKind.wrap_i64]; omega
          have HR3 := Lib.hid hr3
          have HG3 := Lib.hid hg3
          have HN3 := Lib.hid hn3
          have HT3 := Lib.hid ht3
          have HB3 := Lib.hid hb3
          clear hr3 hg3 hn3 ht3 hb3 hW3 HR2 HG2 HBF HT2 HN2 g0 g1 gf gl
          go_region_law (refine step_append_own (by rfl) _ _ 33 (by rfl) w.heap.size 70 ir _ 2 24 Try.underlying33 hir hzr0 hzr1 hzr2 (by rfl) (by decide) (.slice ra k rc) k _ (by simp [Act.eval]) (by refine own_of HT3.out hn3' ?_; repeat (first | assumption | (rw [hn3']; exact Below.refl _ _) | refine Below.drew ?_ | refine below_alloc' ?_ hn3' _)) _ 1 1 [.string q.name, .int .i64 ((ns1.length : Int) - 1)] (by simp [Act.eval]; rfl) (by rfl) (by refine Bl.news (t := 70) ?_; repeat (first | (refine Bl.new' ?_; simp; done) | refine Bl.drew ?_ | refine Bl.past ?_)) (by simp [Value.oneCell']) (by unfold maxLen; omega) (by omega) (by simp; omega) ?_; intro a5 c5 w5 hown5 hgrow5 hat5; have hbw5 : Hid (Below n3 W3 (W3.alloc (.cells #[.string q.name, .int .i64 ((ns1.length : Int) - 1)] 70)).drew) := Lib.hid (Below.drew (below_alloc' (by rw [hn3']; exact Below.refl _ _) hn3' _)); have hg5 := (bl_of HG3.out hn3' hbw5.out).grown hgrow5 (fun g e => by obtain ⟨c, fz, hc⟩ := Lib.ownsRow_kind (own_of HT3.out hn3' hbw5.out) g e; exact ⟨c, 70, fz, hc, by decide⟩); have x0 := hg5.cell (o := 0) rfl; have xf := hg5.free; have HO5 := Lib.hid hown5; have HG5 := Lib.hid hgrow5; clear hown5 hgrow5 hat5 hg5)
          all_goals
            go_wp2
            go_roundw
            case rel => exact ⟨k + 1, by omega, by go_num, ROfS.step HH1.out HNB.out hrk HR3.out HG3.out HN3.out HT3.out HB3.out hn3' hbw5.out HO5.out HG5.out⟩
            case measure => simp [intOf]; omega
    · obtain rfl : k = l.length := by omega
      have k1 : ¬ (l.length : Int) < (l.length : Int) := by omega
      rw [List.drop_length] at h1
      have HR1 := Lib.hid (show ofL l [] [] = some (rsk, nsk) from h1.symm)
      have r0 := hR.cell (o := 0) rfl
      have r1 := hR.cell (o := 1) rfl
      have rf := hR.free
      have g0 := hG.cell (o := 0) rfl
      have g1 := hG.cell (o := 1) rfl
      have HR := Lib.hid hR
      have HN := Lib.hid hN
      have HT := Lib.hid hT
      have HB := Lib.hid hB
      have HTT : Hid (wr.ownsRow w.heap.size 70 2 (.slice ra l.length rc) rsk.length (rulesC rsk)) := Lib.hid (by rw [hrk]; exact HT.out)
      clear hR hG hN hT hB h1 hbd HT
      go_wp2
      have hR5 := (HR.out.set' (o := 0) (.slice ra l.length rc)).set' (o := 1) (.slice na nsk.length nc)
      have hr0 := hR5.cell (o := 0) (u := .slice ra l.length rc) rfl
      have hr1 := hR5.cell (o := 1) (u := .slice na nsk.length nc) rfl
      exact bodyPost_ret (v := .tuple #[.agg #[.slice ra l.length rc, .slice na nsk.length nc], .bool true]) (by simp [results, Try.results12, go_sem, hr0, hr1]) rfl (by rw [HR1.out]; exact OfYes.mk (W := w) (Nat.le_refl _) HR.out HTT.out HN.out HB.out)
end Go.Proofs.Ytnebdnonkefloaa
