/- flow.Of: the search ends with the least facts; flow.Rule. -/
import Derived.Test.YtnfjbjmdempafaaPxJ
namespace Go.Proofs.Ytnfjbjmdempafaa
open Go.RowKit
theorem FInv.kept {rs : List PR} {ns : List PN} {F : List Fc} {held held' : Nat → Bool} {i : Nat} {n : PN} (h : FInv rs ns F held) (hn : ns[i]? = some n) (he : nodeF rs n F = atF F i) (hh : ∀ j, held' j = false → j = i ∨ held j = false) : FInv rs ns F held' := by
  refine ⟨h.low, h.up, fun j m hm hj => ?_⟩
  rcases hh j hj with e | hj
  · subst e
    rw [hn] at hm
    obtain rfl := Option.some.inj hm
    obtain ⟨x, hx⟩ : ∃ x, F[j]? = some x := ⟨_, List.getElem?_eq_getElem (by rw [h.len]; exact (List.getElem?_eq_some_iff.1 hn).1)⟩
    rw [he, atF_some hx]; exact hx
  · exact h.done j m hm hj
theorem URows.kp {b base n UB Q H : Nat} {U : Nat → List Int} {V : Nat → Value} {W W' : World} (h : URows b n UB U V W) (hv : ∀ i, i < n → ∀ g, (V i).ownBlock = some g → g < base) (hu : UB < base) (hq : base ≤ Q) (hh : base ≤ H) (hk : Kp base Q H 3 W W') : URows b n UB U V W' := by
  obtain ⟨⟨cs, h1, h2⟩, h3, h4⟩ := h
  refine ⟨⟨cs, hk.bl h1 (by omega) (by omega) (by decide), h2⟩, fun i hi => ?_, h4⟩
  obtain ⟨hl, hr⟩ := h3 i hi
  refine ⟨hl, ?_⟩
  rcases hr with hr | ⟨g, cap, cur, e, hb, hg, rest⟩
  · exact .inl hr
  · refine .inr ⟨g, cap, cur, e, hb, ?_, rest⟩
    have := hv i hi g (by rw [e]; rfl)
    rw [hk.block g (Array.getElem?_eq_some_iff.1 hg).1 (by omega) (by omega) (.inl this)]
    exact hg
theorem URows.off {b n UB c o : Nat} {t : TypeId} {cs : Array Value} {v : Value} {U : Nat → List Int} {V : Nat → Value} {W : World} (h : URows b n UB U V W) (hc : Bl W c t cs) (h1 : 30 ≠ t) (h2 : 3 ≠ t) : URows b n UB U V (W.setCell ⟨c, o, none⟩ v) := by
  obtain ⟨⟨ds, g1, g2⟩, g3, g4⟩ := h
  exact ⟨⟨ds, g1.off (g1.ne hc h1), g2⟩, fun i hi => ownsRow_setCell_other (g3 i hi) (a := ⟨c, o, none⟩) (row_ne (g3 i hi) ⟨_, _, hc⟩ h2) _, g4⟩
theorem FBk.kp {base b Q H : Nat} {l : List Fc} {W W' : World} (h : FBk W b 85 l) (hb : b < base) (hq : base ≤ Q) (hh : base ≤ H) (hk : Kp base Q H 3 W W') : FBk W' b 85 l := by
  obtain ⟨cs, h1, h2⟩ := h
  exact ⟨cs, hk.bl h1 (by omega) (by omega) (by decide), h2⟩
/-- What Of keeps in memory: w is where it began, B the size of memory when the queue was made. -/
structure OfSt (rs : List PR) (ns : List PN) (rv nv : Value) (w : World) (B : Nat) (U : Nat → List Int) (V : Nat → Value) (F : List Fc) (m : Nat → Bool) (l : List Int) (W : World) : Prop where
  lo : Below w.heap.size w W
  g : Bl W w.heap.size 25 #[rv, nv]
  f : FBk W (w.heap.size + 1) 85 F
  u : URows (w.heap.size + 2) ns.length (w.heap.size + 2 + 1) U V W
  q : Qs B ns.length (B + 1) B m l W
  b : w.heap.size + 2 + 1 < B
  v : ∀ i, i < ns.length → ∀ g, (V i).ownBlock = some g → g < B
section
variable {rs : List PR} {ns : List PN} {rv nv : Value} {w W W' : World} {B : Nat} {U : Nat → List Int} {V : Nat → Value} {F : List Fc} {m m' : Nat → Bool} {l l' : List Int}
theorem OfSt.below (h : OfSt rs ns rv nv w B U V F m l W) (hb : Below W.heap.size W W') : OfSt rs ns rv nv w B U V F m l W' :=
  ⟨bl_on h.lo hb, h.g.below hb, h.f.below hb, h.u.below hb, h.q.below hb, h.b, h.v⟩
theorem OfSt.turn (h : OfSt rs ns rv nv w B U V F m l W) (hq : Qs B ns.length (B + 1) B m' l' W') (hk : Kp B (B + 1) B 3 W W') : OfSt rs ns rv nv w B U V F m' l' W' := by
  have hb := h.b
  have hkb : Below B W W' := hk.below (Nat.le_succ _) (Nat.le_refl _) h.q.sz
  exact ⟨h.lo.trans (hkb.mono (by omega)), hk.bl h.g (by omega) (by omega) (by decide), h.f.kp (by omega) (Nat.le_succ _) (Nat.le_refl _) hk, h.u.kp h.v hb (Nat.le_succ _) (Nat.le_refl _) hk, hq, hb, h.v⟩
theorem Qs.off {n Q H c o : Nat} {t : TypeId} {cs : Array Value} {v : Value} (h : Qs B n Q H m l W) (hc : Bl W c t cs) (h1 : 104 ≠ t) (h2 : 3 ≠ t) (h3 : 4 ≠ t) : Qs B n Q H m l (W.setCell ⟨c, o, none⟩ v) := by
  obtain ⟨⟨a, cap, g1, g2⟩, ⟨ds, g3, g4⟩, g5, g6, g7⟩ := h
  exact ⟨⟨a, cap, g1.off (g1.ne hc h1), ownsRow_setCell_other g2 (a := ⟨c, o, none⟩) (row_ne g2 ⟨_, _, hc⟩ h2) _⟩, ⟨ds, g3.off (g3.ne hc h3), g4⟩, g5, g6, g7⟩
/-- Facts of a node are stored. -/
theorem OfSt.put {i : Nat} {x : Fc} (h : OfSt rs ns rv nv w B U V F m l W) (hi : i < F.length) :
    OfSt rs ns rv nv w B U V (F.set i x) m l (((W.setCell ⟨w.heap.size + 1, i * 3, none⟩ (.bool x.nul)).setCell ⟨w.heap.size + 1, i * 3 + 1, none⟩ (.bool x.eat)).setCell ⟨w.heap.size + 1, i * 3 + 2, none⟩ (.bool x.fai)) := by
  obtain ⟨cs, hc, -⟩ := id h.f
  have hc1 := hc.set' (o := i * 3) (.bool x.nul)
  have hc2 := hc1.set' (o := i * 3 + 1) (.bool x.eat)
  exact ⟨below_p3' h.lo (Nat.le_succ _) _ _ _, ((h.g.off (by omega)).off (by omega)).off (by omega), h.f.put hi, ((h.u.off hc (by decide) (by decide)).off hc1 (by decide) (by decide)).off hc2 (by decide) (by decide),
    ((h.q.off hc (by decide) (by decide) (by decide)).off hc1 (by decide) (by decide) (by decide)).off hc2 (by decide) (by decide) (by decide), h.b, h.v⟩
end
/-- Of answers a block of its own. -/
def NewB (l : List Fc) (w : World) (e : Ending) (w' : World) : Prop := e = .returned (.slice (some ⟨w.heap.size + 1, 0, none⟩) l.length l.length) ∧ FBk w' (w.heap.size + 1) 85 l ∧ Below w.heap.size w w'
/-- A round of the search. -/
def OfR (rs : List PR) (ns : List PN) (rv nv : Value) (w : World) (B : Nat) (U : Nat → List Int) (V : Nat → Value) (g : Nat) (W : World) : Prop :=
  ∃ F m l, OfSt rs ns rv nv w B U V F m l W ∧ FInv rs ns F m ∧ (ns.length + 1) * (3 * ns.length - cntL F) + l.length ≤ g
theorem left_less {N a b p q g : Nat} (h : N * (3 * a - b) + p ≤ g) (hp : 0 < p) (hb : b < q) (hq : q ≤ 3 * a) {r : Nat} (hr : r < N) : N * (3 * a - q) + r < g := by
  have h1 : 3 * a - q + 1 ≤ 3 * a - b := by omega
  have h2 := Nat.mul_le_mul_left N h1
  rw [Nat.mul_add, Nat.mul_one] at h2
  omega
set_option maxHeartbeats 8000000 in
set_option maxRecDepth 100000 in
theorem fof_blk (rv nv : Value) (rs : List PR) (ns : List PN) (w : World) (hR : RulesIn w rv rs) (hN : NodesAt w nv ns) (hO : FlowOk rs ns) :
    Calls Try.prog 27 #[.agg #[rv, nv]] w (NewB (lfp rs ns) w) := by
  have hs := hO.nl
  have hmk := fun w => run_make_facts .i64 .i64 ns.length (by omega) w
  have hmf : ∀ (fn : Fn) (first cap : Array Value) (w : World), (Instr.makeFunc fn first cap).run Try.prog w = .ok (.func fn first cap) w := fun _ _ _ _ => rfl
  have HU := Lib.hid (fun (W : World) (hb : Below w.heap.size w W) => fusers_any rv nv rs ns W (hR.kept hb (Nat.le_refl _)) (hN.kept hb (Nat.le_refl _)) hO)
  have HY := Lib.hid (fun (F : List Fc) (v : Value) (W : World) (hb : Below w.heap.size w W) (hF : FactsAt W v F) (i : Nat) (n : PN) (hn : ns[i]? = some n) => fyield_any rv nv v rs ns F i n W (hR.kept hb (Nat.le_refl _)) (hN.kept hb (Nat.le_refl _)) hF hn (hO.ok n (List.mem_of_getElem? hn)).ok)
  obtain ⟨-, ra, rc, rfl, -⟩ := id hR
  obtain ⟨-, na, nc, rfl, -⟩ := id hN
  unfold UsersIs at HU
  clear hR hN
  have h2 := two_new w (.cells #[.slice ra rs.length rc, .slice na ns.length nc] 25) (.cells (madeCells #[.bool false, .bool false, .bool false] (ns.length * 3)) 85)
  have hz : ((w.alloc (.cells #[.slice ra rs.length rc, .slice na ns.length nc] 25)).alloc (.cells (madeCells #[.bool false, .bool false, .bool false] (ns.length * 3)) 85)).heap.size = w.heap.size + 2 := by simp
  have HU2 := Lib.hid (HU.out _ h2)
  rw [hz] at HU2
  have H2 := Lib.hid h2
  have HZ := Lib.hid hz
  clear h2 hz
  go_enter Try.func27, Try.ntmps27
  go_wp2_with (first
    | (go_at_call 42; (with_reducible refine HU2.out.mono ?_); rintro e w3 ⟨U, V, rfl, hu, hi, hb⟩; have HB3 := Lib.hid hb; have HU3 := Lib.hid hu; have HI := Lib.hid hi; clear hu hi hb)
    | (go_at_call 43; (with_reducible refine (fnew_any ns.length _ (by omega)).mono ?_); rintro e w4 ⟨m, l, rfl, hq, hm, hb⟩; have HQ4 := Lib.hid hq; have HM4 := Lib.hid hm; have HB4 := Lib.hid hb; clear hq hm hb))
  have HI3 := Lib.hid HI.out
  have hof : OfSt rs ns (.slice ra rs.length rc) (.slice na ns.length nc) w w3.heap.size U V (List.replicate ns.length fc0) m l w4 := by
    have hb3 := HB3.out
    have hb4 := HB4.out
    have g0 : Bl ((w.alloc (.cells #[.slice ra rs.length rc, .slice na ns.length nc] 25)).alloc (.cells (madeCells #[.bool false, .bool false, .bool false] (ns.length * 3)) 85)) w.heap.size 25 #[.slice ra rs.length rc, .slice na ns.length nc] := Bl.past (Bl.new w _ _)
    have f0 := FBk.made (w.alloc (.cells #[.slice ra rs.length rc, .slice na ns.length nc] 25)) ns.length 85
    rw [show (w.alloc (.cells #[.slice ra rs.length rc, .slice na ns.length nc] 25)).heap.size = w.heap.size + 1 by simp] at f0
    have hb3' := hb3
    rw [← HZ.out] at hb3'
    exact ⟨bl_on (bl_on H2.out hb3') hb4, (g0.below hb3').below hb4, (f0.below hb3').below hb4, HU3.out.below hb4, HQ4.out, HU3.out.lt, fun i hi g e => ((HU3.out.row i hi).lt g e).2⟩
  have hfi : FInv rs ns (List.replicate ns.length fc0) m := FInv.start rs ns HM4.out
  have hB : w.heap.size + 2 + 1 < w3.heap.size := HU3.out.lt
  have hl0 := HQ4.out.i.le
  clear HU HU2 H2 HZ HB3 HU3 HI HQ4 HM4 HB4 hmk hmf
  generalize w3.heap.size = B at *
  go_loopg [] ((ns.length + 1) * (3 * ns.length) + ns.length) (fun g wr => OfR rs ns (.slice ra rs.length rc) (.slice na ns.length nc) w B U V g wr)
  case atStart => exact ⟨_, m, l, hof, hfi, Nat.add_le_add (Nat.mul_le_mul_left _ (Nat.sub_le _ _)) hl0⟩
  case round =>
    clear hof hfi hl0
    obtain ⟨F, m, l, hq, hi, hg⟩ := hrel
    have HQ := Lib.hid hq
    have HFI := Lib.hid hi
    have HG := Lib.hid hg
    have hlen := hi.len
    have g0 : wr.cell? ⟨w.heap.size, 0, none⟩ = some (.slice ra rs.length rc) := hq.g.cell (o := 0) rfl
    have g1 : wr.cell? ⟨w.heap.size, 1, none⟩ = some (.slice na ns.length nc) := hq.g.cell (o := 1) rfl
    clear hq hi hg
    by_cases hl : l.length = 0
    · have k1 : ¬ (0 : Int) < (l.length : Int) := by omega
      have HD := Lib.hid (HFI.out.over fun i hil => by
        cases hm : m i with
        | false => rfl
        | true =>
          have := (HQ.out.q.i.mem (i : Int)).2 ⟨i, rfl, hil, hm⟩
          rw [List.length_eq_zero_iff.1 hl] at this
          cases this)
      go_wp2_with (go_at_call 46; (with_reducible refine (flen_any B (B + 1) _ _ _ HQ.out.q.q).mono ?_); rintro e w5 ⟨rfl, hw⟩; obtain rfl := hw.symm; clear hw)
      go_ret
      refine ⟨by rw [lfp_length]; rfl, ?_, HQ.out.lo⟩
      rw [← HD.out]
      exact HQ.out.f
    · have k1 : (0 : Int) < (l.length : Int) := by omega
      have hlp : 0 < l.length := by omega
      go_upto_region 7 with (first
        | (go_at_call 46; (with_reducible refine (flen_any B (B + 1) _ _ _ HQ.out.q.q).mono ?_); rintro e w5 ⟨rfl, hw⟩; obtain rfl := hw.symm; clear hw)
        | (go_at_call 45; (with_reducible refine (ftake_any B ns.length (B + 1) B m l _ HQ.out.q hlp (by omega)).mono ?_); rintro e w6 ⟨k, l6, rfl, hk, hmk, hl6, hq6, hk6⟩; have HQ6 := Lib.hid (HQ.out.turn hq6 hk6); have HKN := Lib.hid hk; have HL6 := Lib.hid hl6; have HMK := Lib.hid hmk; clear hk hmk hl6 hq6 hk6))
      obtain ⟨n, hn⟩ : ∃ n, ns[k]? = some n := ⟨_, List.getElem?_eq_getElem HKN.out⟩
      obtain ⟨x, hx⟩ : ∃ x, F[k]? = some x := ⟨_, List.getElem?_eq_getElem (by rw [hlen]; exact HKN.out)⟩
      have k2 : (k : Int) < (ns.length : Int) := by have := HKN.out; omega
      have HC := Lib.hid (HY.out F _ _ HQ6.out.lo (HQ6.out.f.facts (c := ns.length) (by rw [hlen]; unfold maxLen; omega)) k n hn)
      rw [hlen] at HC
      have gg0 : w6.cell? ⟨w.heap.size, 0, none⟩ = some (.slice ra rs.length rc) := HQ6.out.g.cell (o := 0) rfl
      have gg1 : w6.cell? ⟨w.heap.size, 1, none⟩ = some (.slice na ns.length nc) := HQ6.out.g.cell (o := 1) rfl
      have HN := Lib.hid hn
      have HX := Lib.hid hx
      have HV := Lib.hid (show nodeF rs n F = nodeF rs n F from rfl)
      generalize hy : nodeF rs n F = y at HC HV
      have HYE := Lib.hid hy
      unfold factV at HC
      clear g0 g1 hn hx hy HQ
      have HE := eqlF y x
      by_cases hyx : y = x
      · rw [decide_eq_true hyx] at HE
        have HYX := Lib.hid hyx
        clear hyx
        go_upto_region 8 with (go_at_call 47; (with_reducible refine HC.out.mono ?_); rintro e w7 ⟨rfl, hb⟩; have HQ7 := Lib.hid ((HQ6.out.below hb).below (one_new w7 (.cells #[.bool y.nul, .bool y.eat, .bool y.fai] 85))); have HN7 := Lib.hid (Bl.new w7 85 #[.bool y.nul, .bool y.eat, .bool y.fai]); clear hb)
        generalize w7.alloc _ = W8 at *
        have d8 := HN7.out
        have lN := d8.lt
        clear HN7
        generalize w7.heap.size = N at *
        have n0 := d8.c0
        have n1 := d8.c1
        have n2 := d8.c2
        obtain ⟨f0, f1, f2⟩ := HQ7.out.f.at HX.out
        have lf := HQ7.out.f.lt
        have HD8 := Lib.hid d8
        clear d8 gg0 gg1
        go_quiet (with_reducible refine gwpQuiet_agg BinOp.eql 85 _ _ _ rfl rfl _ _ rfl rfl gtF _ HE ?_)
        go_wp2
        go_roundg ((ns.length + 1) * (3 * ns.length - cntL F) + l6.length)
        case measure => have := HG.out; have := HL6.out; omega
        case rel =>
          refine ⟨F, delN m k, l6, HQ7.out.below (below_drewN (Below.refl _ _)), HFI.out.kept HN.out (by rw [HYE.out, HYX.out, atF_some HX.out]) fun j hj => ?_, Nat.le_refl _⟩
          by_cases e : j = k
          · exact .inl e
          · refine .inr ?_
            unfold delN at hj
            have : (j == k) = false := by simp; omega
            rw [this] at hj; simpa using hj
      · rw [decide_eq_false hyx] at HE
        have HYX := Lib.hid hyx
        clear hyx
        go_upto_region 8 with (go_at_call 47; (with_reducible refine HC.out.mono ?_); rintro e w7 ⟨rfl, hb⟩; have HQ7 := Lib.hid ((HQ6.out.below hb).below (one_new w7 (.cells #[.bool y.nul, .bool y.eat, .bool y.fai] 85))); have HN7 := Lib.hid (Bl.new w7 85 #[.bool y.nul, .bool y.eat, .bool y.fai]); clear hb)
        generalize w7.alloc _ = W8 at *
        have d8 := HN7.out
        have lN := d8.lt
        clear HN7
        generalize w7.heap.size = N at *
        have n0 := d8.c0
        have n1 := d8.c1
        have n2 := d8.c2
        obtain ⟨f0, f1, f2⟩ := HQ7.out.f.at HX.out
        have lf := HQ7.out.f.lt
        have HD8 := Lib.hid d8
        clear d8 gg0 gg1
        go_quiet (with_reducible refine gwpQuiet_agg BinOp.eql 85 _ _ _ rfl rfl _ _ rfl rfl gtF _ HE ?_)
        have h9 := HQ7.out.below (below_drewN (m := nq) (Below.refl W8.heap.size W8))
        have d9 := HD8.out.below (below_drewN (m := nq) (Below.refl W8.heap.size W8))
        clear n0 n1 n2 f0 f1 f2 lf lN HD8 HQ7
        generalize W8.drewN nq = W9 at *
        have n0 := d9.c0
        have n1 := d9.c1
        have n2 := d9.c2
        obtain ⟨f0, f1, f2⟩ := h9.f.at HX.out
        have fz := h9.f.free
        have lf := h9.f.lt
        have lN := d9.lt
        have hkF : k < F.length := by rw [hlen]; exact HKN.out
        have H10 := Lib.hid (h9.put (x := y) hkF)
        clear h9 d9
        go_upto_region 10 with (fail)
        clear n0 n1 n2 f0 f1 f2 fz lf lN
        generalize World.setCell _ _ _ = W10 at *
        have hrow := H10.out.u.row k HKN.out
        obtain ⟨va, vc, hv⟩ := own_slice' hrow
        have cu := H10.out.u.cell HKN.out
        rw [hv] at cu
        have lu := H10.out.u.lt
        have HVK := Lib.hid hv
        have hFI : ∀ m' : Nat → Bool, (∀ j, delN m k j = true → m' j = true) → (∀ j : Nat, (j : Int) ∈ U k → m' j = true) → FInv rs ns (F.set k y) m' := fun m' h1 h2 => by
          have := HFI.out.new (held' := m') HN.out fun j m_ hm_ hj => ⟨(by
            by_cases e : j = k
            · exact .inl e
            · refine .inr ?_
              cases hm : m j with
              | false => rfl
              | true =>
                have := h1 j (by unfold delN; rw [hm]; have : (j == k) = false := by simp; omega
                                 rw [this]; rfl)
                rw [hj] at this; cases this), fun hd => by
            have := h2 j (HI3.out.all j k m_ (List.getElem?_eq_some_iff.1 hm_).1 hm_ hd HKN.out)
            rw [hj] at this; cases this⟩
          rw [HYE.out] at this; exact this
        have hcnt : cntL F < cntL (F.set k y) := by
          have := cnt_new HFI.out HN.out (by rw [HYE.out, atF_some HX.out]; exact HYX.out)
          rw [HYE.out] at this; exact this
        have hcl : cntL (F.set k y) ≤ 3 * ns.length := by have := cntL_le (F.set k y); rw [List.length_set, hlen] at this; exact this
        have HFN := Lib.hid hFI
        have HCN := Lib.hid hcnt
        have HCL := Lib.hid hcl
        have HUL := Lib.hid (fun x hx => HI3.out.lt k x hx)
        have hul := HI3.out.len k
        clear hrow hv hFI hcnt hcl
        go_wp2
        go_loopw [49] (fun d wx => ∃ (t : Nat) (m' : Nat → Bool) (l' : List Int), t ≤ (U k).length ∧ d = .int .i64 (t : Int) ∧ OfSt rs ns (.slice ra rs.length rc) (.slice na ns.length nc) w B U V (F.set k y) m' l' wx ∧ (∀ j, delN m k j = true → m' j = true) ∧ ∀ (p : Nat) (j : Nat), p < t → (U k)[p]? = some (j : Int) → m' j = true) (fun d _ => (U k).length - (intOf d).toNat)
        case atStart => exact ⟨0, delN m k, l6, Nat.zero_le _, rfl, H10.out, fun j h => h, fun p j h => absurd h (Nat.not_lt_zero _)⟩
        case round =>
          obtain ⟨t, m', l', ht, rfl, hq, h1, h2⟩ := hrel
          by_cases htl : t < (U k).length
          · have t1 : (t : Int) < ((U k).length : Int) := by omega
            obtain ⟨z, hz⟩ : ∃ z, (U k)[t]? = some z := ⟨_, List.getElem?_eq_getElem htl⟩
            obtain ⟨j, rfl, hj⟩ := HUL.out z (List.mem_of_getElem? hz)
            have hrow := hq.u.row k HKN.out
            rw [HVK.out] at hrow
            obtain ⟨g, rfl, -, hc, -⟩ := own_open' hrow (by omega)
            have cz := hc t (.int .i64 (j : Int)) (by unfold intsV; rw [List.getElem?_map, hz]; rfl)
            have HC2 := Lib.hid (fadd_any B ns.length (B + 1) B j m' l' _ hq.q hj (by omega))
            have HQ := Lib.hid hq
            have H1 := Lib.hid h1
            have H2 := Lib.hid h2
            have HZ := Lib.hid hz
            clear hq h1 h2 hz hrow hc
            go_wp2_with (go_at_call 44; (with_reducible refine HC2.out.mono ?_); rintro e w11 ⟨⟨v11, rfl⟩, l11, hq11, hk11⟩; have HQ11 := Lib.hid (HQ.out.turn hq11 hk11); clear hq11 hk11)
            go_roundw
            case rel =>
              refine ⟨t + 1, ins m' j, l11, by omega, by go_num, HQ11.out, fun i hi => ins_keep (H1.out i hi), fun p i hp hpi => ?_⟩
              by_cases e : p = t
              · subst e
                have hzz := HZ.out
                rw [hpi] at hzz
                have : i = j := by injection hzz with hzz; omega
                subst this
                exact ins_here m' i
              · exact ins_keep (H2.out p i (by omega) hpi)
            case measure => simp [intOf]; omega
          · obtain rfl : t = (U k).length := by omega
            have t1 : ¬ ((U k).length : Int) < ((U k).length : Int) := by omega
            have HQ := Lib.hid hq
            have HF2 := Lib.hid (HFN.out m' h1 fun j hj => by
              obtain ⟨p, hp⟩ := List.getElem?_of_mem hj
              exact h2 p j (List.getElem?_eq_some_iff.1 hp).1 hp)
            clear hq h1 h2
            go_wp2
            have hle := HQ.out.q.i.le
            go_roundg ((ns.length + 1) * (3 * ns.length - cntL (F.set k y)) + l'.length)
            case measure => exact left_less HG.out hlp HCN.out HCL.out (Nat.lt_succ_of_le hle)
            case rel => exact ⟨F.set k y, m', l', HQ.out, HF2.out, Nat.le_refl _⟩
theorem fof_any (rv nv : Value) (rs : List PR) (ns : List PN) (w : World) (hR : RulesIn w rv rs) (hN : NodesAt w nv ns) (hO : FlowOk rs ns) :
    Calls Try.prog 27 #[.agg #[rv, nv]] w (NewF (lfp rs ns) w) :=
  (fof_blk rv nv rs ns w hR hN hO).mono fun e w' ⟨h1, h2, h3⟩ => ⟨some ⟨w.heap.size + 1, 0, none⟩, (lfp rs ns).length, h1, h2.facts (by rw [lfp_length]; have := hO.nl; unfold maxLen; omega), h3⟩
end Go.Proofs.Ytnfjbjmdempafaa
