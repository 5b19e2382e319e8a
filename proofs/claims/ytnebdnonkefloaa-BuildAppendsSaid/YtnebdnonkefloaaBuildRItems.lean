/- The reference's items and Items. -/
import Derived.Test.YtnebdnonkefloaaBuildROf
import Derived.Test.YtnebdnonkefloaaBuildRows
import Derived.Test.YtnebdnonkefloaaBuildIts
namespace Go.Proofs.Ytnebdnonkefloaa
open Go.RowKit
theorem itemsR_len (rs : List PR) (ns : List PN) : (itemsR rs ns).length = rs.length := by unfold itemsR; rw [List.length_map]
theorem below_all {n1 : Nat} {wr W : World} (hn : n1 = wr.heap.size) (h : Below n1 wr W) : Below wr.heap.size wr W := by rw [← hn]; exact h
theorem s4_below {a b c d : Addr} {u0 u1 u2 u3 : Value} {W W' : World} (ha : a.spot = none) (hb' : b.spot = none) (hc : c.spot = none) (hd : d.spot = none) (h : W.cell? a = some u0 ∧ W.cell? b = some u1 ∧ W.cell? c = some u2 ∧ W.cell? d = some u3) (hb : Below W.heap.size W W') :
    W'.cell? a = some u0 ∧ W'.cell? b = some u1 ∧ W'.cell? c = some u2 ∧ W'.cell? d = some u3 := by
  obtain ⟨ab, ao, _⟩ := a
  obtain ⟨bb, bo, _⟩ := b
  obtain ⟨cb, co, _⟩ := c
  obtain ⟨db, d', _⟩ := d
  simp only at ha hb' hc hd
  subst ha hb' hc hd
  obtain ⟨h0, h1, h2, h3⟩ := h
  exact ⟨by rw [(bcell hb).1 _ _ (lt_of_cell h0)]; exact h0, by rw [(bcell hb).1 _ _ (lt_of_cell h1)]; exact h1, by rw [(bcell hb).1 _ _ (lt_of_cell h2)]; exact h2, by rw [(bcell hb).1 _ _ (lt_of_cell h3)]; exact h3⟩
theorem own_some {W : World} {base : Nat} {e : TypeId} {size n : Nat} {v : Value} {xs : List Value} (h : W.ownsRow base e size v n xs) (hn : 0 < n) : ∃ g c, v = .slice (some ⟨g, 0, none⟩) n c ∧ base ≤ g := by
  rcases h.2 with ⟨-, h0⟩ | ⟨g, cap, cur, rfl, hb, -⟩
  · omega
  · exact ⟨g, cap, rfl, hb⟩
theorem itL_pos {ns : List PN} (hK : KidsBelow ns) {i : Nat} (hi : i < ns.length) : 0 < (itL ns i).length := by
  obtain ⟨n, hn⟩ : ∃ n, ns[i]? = some n := ⟨_, List.getElem?_eq_getElem hi⟩
  rw [itL_eq hK hn]; simp
def RItIs (its : List PI) (w : World) (e : Ending) (w' : World) : Prop := ∃ u, e = .returned u ∧ w'.ownsRow w.heap.size 32 7 u its.length (itemsC its) ∧ Below w.heap.size w w'
/-- The state of the loop over the kids. -/
def RItL (rv nv : Value) (ns : List PN) (x : PN) (kv : Value) (w : World) (p : Nat) (u : Value) (wr : World) : Prop :=
  Bl wr w.heap.size 36 #[rv, nv] ∧ Bl wr (w.heap.size + 1) 55 #[.int .i64 x.op, kv, .int .i64 x.rule, .int .u64 x.s0, .int .u64 x.s1, .int .u64 x.s2, .int .u64 x.s3] ∧
    wr.ownsRow w.heap.size 32 7 u (x.item :: (x.kids.take p).flatMap (itL ns)).length (itemsC (x.item :: (x.kids.take p).flatMap (itL ns))) ∧ Below w.heap.size w wr
theorem RItL.cells {w wr : World} {rv nv kv u : Value} {ns : List PN} {x : PN} {p b o : Nat} {v : Value} (h : RItL rv nv ns x kv w p u wr) (hc : w.cell? ⟨b, o, none⟩ = some v) : wr.cell? ⟨w.heap.size, 0, none⟩ = some rv ∧ wr.cell? ⟨w.heap.size, 1, none⟩ = some nv ∧ wr.cell? ⟨w.heap.size + 1, 1, none⟩ = some kv ∧ wr.cell? ⟨b, o, none⟩ = some v :=
  ⟨h.1.cell rfl, h.1.cell rfl, h.2.1.cell rfl, by rw [(bcell h.2.2.2).1 _ _ (lt_of_cell hc)]; exact hc⟩
theorem below_of_eq {n1 : Nat} {wr W : World} (hn : n1 = wr.heap.size) (h : Below wr.heap.size wr W) : Below n1 wr W := by rw [hn]; exact h
theorem RItL.step {w wr W w5 : World} {rv nv kv u u' : Value} {ns : List PN} {x : PN} {p n1 : Nat} {k : Int} (hk : x.kids[p]? = some k) (h : RItL rv nv ns x kv w p u wr) (hn1 : n1 = wr.heap.size) (hb : Below n1 wr W) {m : Nat}
    (hown : w5.ownsRow w.heap.size 32 7 u' m (itemsC (x.item :: (x.kids.take p).flatMap (itL ns)) ++ itemsC (itL ns k))) (hm : m = (x.item :: (x.kids.take (p + 1)).flatMap (itL ns)).length) (hg : W.grownBy w5 u.ownBlock) : RItL rv nv ns x kv w (p + 1) u' w5 := by
  obtain ⟨h1, h2, h3, h4⟩ := h
  have h3' := own_of h3 hn1 hb
  have kb : ∀ {b : Nat} {t : TypeId} {cs : Array Value}, Bl wr b t cs → t ≠ 32 → Bl w5 b t cs := fun hB ht => (bl_of hB hn1 hb).grown hg (fun g e => by
    obtain ⟨c, fz, hc⟩ := Lib.ownsRow_kind h3' g e
    exact ⟨c, _, fz, hc, ht⟩)
  subst hn1 hm
  have h5 := h4.trans (hb.mono h4.size)
  refine ⟨kb h1 (by decide), kb h2 (by decide), ?_, h5.grown hg h5.size (fun g e => (h3.lt g e).1)⟩
  rw [← itemsC_append] at hown
  rw [take_snoc' x.kids p k hk, List.flatMap_append] at hown ⊢
  simpa using hown
set_option maxHeartbeats 8000000 in
set_option maxRecDepth 100000 in
theorem ritems_any (ra na : Option Addr) (rn rc nc : Nat) (ns : List PN) (hA : AllEx ns) (hns : ns.length ≤ 1000000) : ∀ (f i : Nat) (w : World), i < f → i < ns.length → NodesAt w (.slice na ns.length nc) ns →
    Calls Try.prog 37 #[.agg #[.slice ra rn rc, .slice na ns.length nc], .int .i64 (i : Int)] w (RItIs (itL ns i) w)
  | 0, _, _, h, _, _ => absurd h (Nat.not_lt_zero _)
  | f + 1, i, w, hf, hi, hN => by
    have IH := Lib.hid (ritems_any ra na rn rc nc ns hA hns f)
    obtain ⟨x, hx⟩ : ∃ x, ns[i]? = some x := ⟨_, List.getElem?_eq_getElem hi⟩
    have he := hA i (by omega) (by omega)
    have hlt := exL_lt ns i he
    have HL := Lib.hid (itL_eq hA.kids hx)
    have HLen := Lib.hid (itL_length hA (i := (i : Int)) (by omega) (by omega))
    obtain ⟨ii, hii, hz0, hz1, hz2⟩ := info_parts (show (Try.prog.info? 32).map (fun i => (i.zero, i.size, i.bytes)) = some (some (.agg #[.int .i64 0, .int .i64 0, .int .i64 0, .int .u64 0, .int .u64 0, .int .u64 0, .int .u64 0]), 7, 56) from infoRItem)
    have HN := Lib.hid hN
    obtain ⟨-, na', nc', hne, hna⟩ := hN
    injection hne with e1 e2 e3
    subst e1 e3
    clear e2
    rcases hna with h0 | ⟨nb, no, rfl, hca⟩
    · rw [h0] at hi; exact absurd hi (Nat.not_lt_zero _)
    obtain ⟨kv, c0, c1, c2, c3, c4, c5, c6, ci, cl⟩ := hca i x hx
    have CI := Lib.hid ci
    obtain ⟨ka, kc, rfl, -⟩ := ci
    have k1 : (i : Int) < (ns.length : Int) := by omega
    have nl := lt_of_cell c0
    unfold maxLen at cl
    obtain ⟨W, hW⟩ : ∃ W, ((w.alloc (.cells #[.slice ra rn rc, .slice (some ⟨nb, no, none⟩) ns.length nc] 36)).alloc (.cells #[.int .i64 x.op, .slice ka x.kids.length kc, .int .i64 x.rule, .int .u64 x.s0, .int .u64 x.s1, .int .u64 x.s2, .int .u64 x.s3] 55)).alloc (.cells #[.int .i64 x.op, .int .i64 x.kids.length, .int .i64 x.rule, .int .u64 x.s0, .int .u64 x.s1, .int .u64 x.s2, .int .u64 x.s3] 32) = W := ⟨_, rfl⟩
    have hb3 : Below w.heap.size w W := by rw [← hW]; exact (two_new w _ _).alloc (by simp; omega) _
    have hSt : RItL (.slice ra rn rc) (.slice (some ⟨nb, no, none⟩) ns.length nc) ns x (.slice ka x.kids.length kc) w 0 (.slice (some ⟨w.heap.size + 1 + 1, 0, none⟩) 1 1) W := by
      refine ⟨?_, ?_, ?_, hb3⟩
      · rw [← hW]; repeat (first | (refine Bl.new' ?_; simp; done) | refine Bl.past ?_)
      · rw [← hW]; repeat (first | (refine Bl.new' ?_; simp; done) | refine Bl.past ?_)
      · have hB : Bl W (w.heap.size + 1 + 1) 32 #[.int .i64 x.op, .int .i64 x.kids.length, .int .i64 x.rule, .int .u64 x.s0, .int .u64 x.s1, .int .u64 x.s2, .int .u64 x.s3] := by
          rw [← hW]; repeat (first | (refine Bl.new' ?_; simp; done) | refine Bl.past ?_)
        rw [List.take_zero]
        exact ⟨rfl, .inr ⟨_, 1, _, rfl, by omega, hB, Nat.le_refl _, by decide, rfl, rfl⟩⟩
    have HST := Lib.hid hSt
    have HX := Lib.hid hx
    clear hca hx hb3 hSt
    go_enter Try.func37, Try.ntmps37
    go_wp2
    clear c0 c1 c2 c3 c4 c5 c6 hW
    go_loopw [7, 6] (fun c vu wr => ∃ p : Nat, p ≤ x.kids.length ∧ c = .int .i64 p ∧ RItL (.slice ra rn rc) (.slice (some ⟨nb, no, none⟩) ns.length nc) ns x (.slice ka x.kids.length kc) w p vu wr) (fun c _ _ => x.kids.length - (intOf c).toNat)
    case atStart => exact ⟨0, Nat.zero_le _, rfl, HST.out⟩
    case round =>
      clear HST
      obtain ⟨p, hp, rfl, hL⟩ := hrel
      have hL' := hL
      obtain ⟨l1, l2, l3, l4⟩ := hL'
      obtain ⟨ua, uc, rfl⟩ := own_slice' l3
      have x1 : wr.cell? ⟨w.heap.size + 1, 1, none⟩ = some (.slice ka x.kids.length kc) := l2.cell rfl
      by_cases hpl : p < x.kids.length
      · obtain ⟨k, hk⟩ : ∃ k, x.kids[p]? = some k := ⟨_, List.getElem?_eq_getElem hpl⟩
        obtain ⟨s1, s2, s3, s4, s5⟩ := kid_span HX.out he hk
        obtain ⟨m, rfl⟩ : ∃ m : Nat, k = m := ⟨k.toNat, by omega⟩
        obtain ⟨kb, ko, rfl, ck⟩ := CI.out.at' hk
        have hfl := flat_len hA HX.out he p hp
        have hml := itL_length hA (i := (m : Int)) (by omega) (by omega)
        have hmp := itL_pos hA.kids (i := m) (by omega)
        have hfl2 := flat_len hA HX.out he (p + 1) (by omega)
        have hupe := upto_ge HX.out he (p + 1) (by omega)
        rw [upto_succ hk] at hfl2
        obtain ⟨n1, hn1⟩ : ∃ n1, n1 = wr.heap.size := ⟨_, rfl⟩
        obtain ⟨n0, hn0⟩ : ∃ n0, n0 = w.heap.size := ⟨_, rfl⟩
        have hlw := l4.size
        have hC := Lib.hid (fun (W : World) (hW : Below n1 wr W) => IH.out m W (by omega) (by omega) ((HN.out.kept l4 (Nat.le_refl _)).kept (hn1 ▸ hW) (Nat.le_refl _)))
        unfold RItIs at hC
        have p1 : (p : Int) < (x.kids.length : Int) := by omega
        have ckr : wr.cell? ⟨kb, ko + p, none⟩ = some (.int .i64 (m : Int)) := by rw [(bcell l4).1 _ _ (lt_of_cell ck)]; exact ck
        have hlen1 : (x.item :: (x.kids.take p).flatMap (itL ns)).length = 1 + ((x.kids.take p).flatMap (itL ns)).length := by rw [List.length_cons]; omega
        have hlen2 : (x.item :: (x.kids.take (p + 1)).flatMap (itL ns)).length = 1 + ((x.kids.take (p + 1)).flatMap (itL ns)).length := by rw [List.length_cons]; omega
        have hS0 : wr.cell? ⟨w.heap.size, 0, none⟩ = some (.slice ra rn rc) ∧ wr.cell? ⟨w.heap.size, 1, none⟩ = some (.slice (some ⟨nb, no, none⟩) ns.length nc) ∧ wr.cell? ⟨w.heap.size + 1, 1, none⟩ = some (.slice (some ⟨kb, ko, none⟩) x.kids.length kc) ∧ wr.cell? ⟨kb, ko + p, none⟩ = some (.int .i64 (m : Int)) := ⟨l1.cell rfl, l1.cell rfl, l2.cell rfl, ckr⟩
        have HLs := Lib.hid hL
        have HL3 := Lib.hid l3
        have HKp := Lib.hid hk
        have HCK := Lib.hid ck
        have HL4 := Lib.hid l4
        have hsum : (x.item :: (x.kids.take (p + 1)).flatMap (itL ns)).length = (x.item :: (x.kids.take p).flatMap (itL ns)).length + (itL ns m).length := by
          rw [take_snoc' x.kids p _ hk, List.flatMap_append]; simp; omega
        have hsmall : (x.item :: (x.kids.take p).flatMap (itL ns)).length + (itL ns m).length ≤ 1000000 := by omega
        have HSUM := Lib.hid hsum
        generalize hQ : (x.item :: (x.kids.take p).flatMap (itL ns)).length = Q at *
        clear hL l1 l2 l3 l4 hk ck s1 s2 s3 s4 s5 hfl hml hfl2 hupe hlen1 hlen2 hsum ckr x1
        go_wp2
        go_region_held3 (fun W => W.cell? ⟨w.heap.size, 0, none⟩ = some (.slice ra rn rc) ∧ W.cell? ⟨w.heap.size, 1, none⟩ = some (.slice (some ⟨nb, no, none⟩) ns.length nc) ∧ W.cell? ⟨w.heap.size + 1, 1, none⟩ = some (.slice (some ⟨kb, ko, none⟩) x.kids.length kc) ∧ W.cell? ⟨kb, ko + p, none⟩ = some (.int .i64 (m : Int)))
          (first | exact hS | exact hS0 | (refine s4_below rfl rfl rfl rfl ?_ (below_drew1 _); assumption))
          (first
            | (go_at_call 37; (with_reducible refine (hC.out _ (below_of_eq hn1 (below_drew1 wr))).mono ?_); rintro e w2 ⟨u, rfl, ho2, hb2⟩; obtain ⟨g2, c2, rfl, -⟩ := own_some ho2 hmp; have hBr := below_trans' (below_of_eq hn1 (below_drew1 wr)) hn1 hb2; have hS := s4_below rfl rfl rfl rfl hS0 (hn1 ▸ hBr); have HO2 := Lib.hid ho2; clear ho2)
            | ((refine step_append_own (by rfl) _ _ 25 (by rfl) w.heap.size 32 ii _ 7 56 Try.underlying25 hii hz0 hz1 hz2 (by rfl) (by decide) (.slice ua Q uc) Q _ (by rfl) (by refine own_of HL3.out hn1 ?_; repeat (first | assumption | refine Below.drew ?_)) ⟨g2, 0, none⟩ (itL ns m).length c2 (itemsC (itL ns m)) (by rfl) (itemsC_length _) (by exact fun j u hu => HO2.out.cells rfl j u hu) (itemsC_one_cell _) (by unfold maxLen; omega) (by omega) (by have := hBr.size; omega) ?_
                intro a5 c5 w5 hown5 hgrow5 hat5
                have hst := RItL.step HKp.out HLs.out hn1 hBr hown5 HSUM.out.symm hgrow5
                have hS := RItL.cells hst HCK.out
                have HST2 := Lib.hid hst)))
        go_wp2
        go_roundw
        case rel => exact ⟨p + 1, by omega, by go_num, HST2.out⟩
        case measure => simp [intOf]; omega
      · obtain rfl : p = x.kids.length := by omega
        have p1 : ¬ (x.kids.length : Int) < (x.kids.length : Int) := by omega
        have HB := Lib.hid l4
        have HO : Hid (wr.ownsRow w.heap.size 32 7 (.slice ua (itL ns i).length uc) (itL ns i).length (itemsC (itL ns i))) := Lib.hid (by rw [HL.out]; rw [List.take_length] at l3; exact l3)
        have HLL : Hid ((x.item :: (x.kids.take x.kids.length).flatMap (itL ns)).length = (itL ns i).length) := Lib.hid (by rw [HL.out, List.take_length])
        rw [HLL.out]
        clear hL l1 l2 l3 l4
        go_wp2
        go_ret
        exact ⟨_, rfl, HO.out, HB.out⟩
theorem RItIs.any (ra na : Option Addr) (rn rc nc : Nat) (ns : List PN) (hA : AllEx ns) (hns : ns.length ≤ 1000000) (i : Nat) (hi : i < ns.length) (w : World) (hN : NodesAt w (.slice na ns.length nc) ns) :
    Calls Try.prog 37 #[.agg #[.slice ra rn rc, .slice na ns.length nc], .int .i64 (i : Int)] w (RItIs (itL ns i) w) := ritems_any ra na rn rc nc ns hA hns (i + 1) i w (Nat.lt_succ_self _) hi hN
set_option maxHeartbeats 8000000 in
set_option maxRecDepth 100000 in
/-- The reference's Items of a grammar in post-order. -/
theorem rItems_any (rv nv : Value) (rs : List PR) (ns : List PN) (w : World) (hR : RulesIn w rv rs) (hN : NodesAt w nv ns) (hrs : rs.length ≤ 1000000) (hns : ns.length ≤ 1000000) (hO : ordR ns rs (-1) = true) :
    Calls Try.prog 18 #[.agg #[rv, nv]] w (BackIs 27 32 (itemsR rs ns) w) := by
  obtain ⟨na, nc, rfl⟩ := hN.slice
  obtain ⟨-, ra, rc, rfl, hra⟩ := hR
  have hA := ordR_ex hO
  obtain ⟨ii, hii, hz0, hz1, hz2⟩ := info_parts infoRRule
  have HN := Lib.hid hN
  have hroots := Lib.hid (show ∀ (k : Nat) (r : PR), rs[k]? = some r → 0 ≤ r.root ∧ r.root < ns.length from by
    have key : ∀ (t : List PR) (b : Int), -1 ≤ b → ordR ns t b = true → ∀ (k : Nat) (r : PR), t[k]? = some r → 0 ≤ r.root ∧ r.root < ns.length := by
      intro t
      induction t with
      | nil => intro b _ _ k r h; simp at h
      | cons p t ih =>
        intro b hb ho k r h
        obtain ⟨h1, h2, -, h4⟩ := ordR_cons ho
        cases k with
        | zero => obtain rfl : p = r := by simpa using h
                  exact ⟨by omega, h2⟩
        | succ k => exact ih p.root (by omega) h4 k r (by simpa using h)
    exact key rs (-1) (by omega) hO)
  clear hN hO
  go_enter Try.func18, Try.ntmps18
  go_wp2
  go_loopw [4, 3] (fun c u wr => ∃ k : Nat, k ≤ rs.length ∧ c = .int .i64 k ∧ Bl wr w.heap.size 36 #[.slice ra rs.length rc, .slice na ns.length nc] ∧ w.heap.size < wr.heap.size ∧ BackS 27 32 (itemsR rs ns) w k u wr) (fun c _ _ => rs.length - (intOf c).toNat)
  case atStart => exact ⟨0, Nat.zero_le _, rfl, Bl.new w _ _, by simp, [], by rw [List.take_zero]; exact QRow.nil _ _ _ _, one_new w _⟩
  case round =>
    obtain ⟨k, hk, rfl, hG, hGl, vs, ho, hb⟩ := hrel
    obtain ⟨ua, uc, rfl⟩ := own_slice' ho.2.1
    have hkl : ((itemsR rs ns).take k).length = k := by rw [List.length_take, itemsR_len]; omega
    rw [hkl] at ho ⊢
    have g0 : wr.cell? ⟨w.heap.size, 0, none⟩ = some (.slice ra rs.length rc) := hG.cell rfl
    by_cases hlt : k < rs.length
    · obtain ⟨r, hr⟩ : ∃ r, rs[k]? = some r := ⟨_, List.getElem?_eq_getElem hlt⟩
      rcases hra with h0 | ⟨rb, ro, rfl, hca⟩
      · rw [h0] at hlt; exact absurd hlt (Nat.not_lt_zero _)
      obtain ⟨d0, d1⟩ := hca k r hr
      obtain ⟨z0, z1⟩ := hroots.out k r hr
      obtain ⟨i, hi⟩ : ∃ i : Nat, r.root = i := ⟨r.root.toNat, by omega⟩
      have k1 : (k : Int) < (rs.length : Int) := by omega
      obtain ⟨n0, hn0⟩ : ∃ n0, n0 = w.heap.size := ⟨_, rfl⟩
      obtain ⟨n1, hn1⟩ : ∃ n1, n1 = wr.heap.size := ⟨_, rfl⟩
      have hbs := hb.size
      have hC := Lib.hid (fun (W : World) (hW : Below n1 wr W) => RItIs.any (some ⟨rb, ro, none⟩) na rs.length rc nc ns hA hns i (by omega) W ((HN.out.kept hb (Nat.le_refl _)).kept (hn1 ▸ hW) (Nat.le_refl _)))
      unfold RItIs at hC
      rw [← hi] at hC
      have hq : (itemsR rs ns)[k]? = some ⟨r.name, itL ns r.root⟩ := by unfold itemsR; rw [List.getElem?_map, hr]; rfl
      have hS0 : wr.cell? ⟨w.heap.size, 0, none⟩ = some (.slice (some ⟨rb, ro, none⟩) rs.length rc) ∧ wr.cell? ⟨w.heap.size, 1, none⟩ = some (.slice na ns.length nc) ∧ wr.cell? ⟨rb, ro + k * 2, none⟩ = some (.string r.name) ∧ wr.cell? ⟨rb, ro + k * 2 + 1, none⟩ = some (.int .i64 r.root) := ⟨g0, hG.cell rfl, by rw [(bcell hb).1 _ _ (lt_of_cell d0)]; exact d0, by rw [(bcell hb).1 _ _ (lt_of_cell d1)]; exact d1⟩
      have HQ := Lib.hid hq
      have HO := Lib.hid ho
      have HB := Lib.hid hb
      have HG := Lib.hid hG
      have HKL := Lib.hid hkl
      have HD0 := Lib.hid d0
      have HD1 := Lib.hid d1
      clear hq ho hb hG hkl d0 d1 hi hca g0 hr
      go_wp2
      go_region_held3 (fun W => W.cell? ⟨w.heap.size, 0, none⟩ = some (.slice (some ⟨rb, ro, none⟩) rs.length rc) ∧ W.cell? ⟨w.heap.size, 1, none⟩ = some (.slice na ns.length nc) ∧ W.cell? ⟨rb, ro + k * 2, none⟩ = some (.string r.name) ∧ W.cell? ⟨rb, ro + k * 2 + 1, none⟩ = some (.int .i64 r.root))
        (first | exact hS | exact hS0 | (repeat (first | assumption | refine s4_below rfl rfl rfl rfl ?_ (below_drew1 _) | refine s4_below rfl rfl rfl rfl ?_ (one_new _ _))))
        (first
          | (go_at_call 37; (with_reducible refine (hC.out _ (below_of_eq hn1 (below_drew1 wr))).mono ?_); rintro e w2 ⟨u, rfl, ho2, hb2⟩; obtain ⟨pa, pc, rfl⟩ := own_slice' ho2; have hBr := below_trans' (below_of_eq hn1 (below_drew1 wr)) hn1 hb2; have hS := s4_below rfl rfl rfl rfl hS0 (hn1 ▸ hBr); have HO2 := Lib.hid (own_mono ho2 (base' := w.heap.size) (by exact hbs)); clear ho2)
          | ((refine step_append_own (by rfl) _ _ 22 (by rfl) w.heap.size 27 ii _ 2 40 Try.underlying22 hii hz0 hz1 hz2 (by rfl) (by decide) (.slice ua k uc) k _ (by rfl) (by refine rows_kept HO.out HKL.out hn1 (W := ?_) ?_; repeat (first | assumption | refine Below.drew ?_ | refine below_alloc' ?_ hn1 _)) _ 1 1 [.string r.name, .slice pa (itL ns r.root).length pc] (by rfl) (by rfl) (by refine Bl.news (t := 27) ?_; repeat (first | (refine Bl.new' ?_; simp; done) | refine Bl.drew ?_ | refine Bl.past ?_)) (by simp [Value.oneCell']) (by unfold maxLen; omega) (by omega) (by have := hBr.size; simp; omega) ?_
              intro a3' c3' w3 hown3 hgrow3 hat3
              have hBr3 := below_alloc' hBr hn1 (.cells #[.string r.name, .slice pa (itL ns r.root).length pc] 27)
              have hst := BackS.step (tr := 27) (ti := 32) (by decide) HQ.out HO.out HKL.out hn0 hn1 (below_trans' (hn0 ▸ HB.out) hn0 (below_all hn1 hBr3)) hBr3 (ownsRow_grown HO2.out (one_new _ _)) hown3 hgrow3
              have hG3 := (bl_of HG.out hn1 hBr3).grown hgrow3 (fun g e => by obtain ⟨c, fz, hc⟩ := Lib.ownsRow_kind (rows_kept HO.out HKL.out hn1 hBr3) g e; exact ⟨c, 27, fz, hc, by decide⟩)
              have hb3 : Below w.heap.size w w3 := by obtain ⟨_, _, h⟩ := hst; exact h
              have hS : w3.cell? ⟨w.heap.size, 0, none⟩ = some (.slice (some ⟨rb, ro, none⟩) rs.length rc) ∧ w3.cell? ⟨w.heap.size, 1, none⟩ = some (.slice na ns.length nc) ∧ w3.cell? ⟨rb, ro + k * 2, none⟩ = some (.string r.name) ∧ w3.cell? ⟨rb, ro + k * 2 + 1, none⟩ = some (.int .i64 r.root) := ⟨hG3.cell rfl, hG3.cell rfl, by rw [(bcell hb3).1 _ _ (lt_of_cell HD0.out)]; exact HD0.out, by rw [(bcell hb3).1 _ _ (lt_of_cell HD1.out)]; exact HD1.out⟩
              have HST := Lib.hid hst
              have HG3 := Lib.hid hG3
              have hgl3 := hG3.lt)))
      go_wp2
      go_roundw
      case rel => exact ⟨k + 1, by omega, by go_num, HG3.out, hgl3, HST.out⟩
      case measure => simp [intOf]; omega
    · obtain rfl : k = rs.length := by omega
      have k1 : ¬ (rs.length : Int) < (rs.length : Int) := by omega
      have ho' : QRow w.heap.size 27 32 (.slice ua rs.length uc) (itemsR rs ns) vs wr := by
        have := ho
        rw [List.take_of_length_le (by rw [itemsR_len]; exact Nat.le_refl _)] at this
        exact this
      have HO := Lib.hid ho'
      have HB := Lib.hid hb
      clear ho ho' hb hkl hG
      go_wp2
      go_ret
      exact ⟨_, vs, rfl, HO.out, HB.out⟩
end Go.Proofs.Ytnebdnonkefloaa
