/- The law's returns: whether a path of needs leads back. -/
import Derived.Deep.RegionWith
import Derived.Deep.CutRange
import Derived.Maps.AppendAt
import Derived.Test.YtnfjbjmdempafaaPkFM
import Derived.Test.YtnfjbjmdempafaaPkB
import Derived.Test.YtnfjbjmdempafaaPkWR
namespace Go.Proofs.Ytnfjbjmdempafaa
open Go.RowKit
theorem natI_need {rs : List PR} {ns : List PN} {i : Nat} {n : PN} (hn : ns[i]? = some n) (hI : NodeIn rs ns.length n) : natI (needW rs ns (lfp rs ns) i) = needN rs (lfp rs ns) n := by
  rw [needW_at hn]
  unfold natI
  rw [List.map_map]
  exact (List.map_congr_left fun x hx => by have := needN_in hI hx; show ((x.toNat : Nat) : Int) = x; omega).trans (List.map_id _)
theorem natI_mem {f : List Nat} {j : Nat} : (j : Int) ∈ natI f ↔ j ∈ f := by
  unfold natI
  rw [List.mem_map]
  exact ⟨fun ⟨x, hx, e⟩ => by have : x = j := by omega
                              subst this; exact hx, fun h => ⟨j, h, rfl⟩⟩
/-- A list that grows by needs, and the needs that are being looked at. -/
structure SnS (need : Nat → List Nat) (N : Nat) (b : List Nat) (B BL : Nat) (lv : Value) (l : List Int) (sn : List Nat) (k m : Nat) (s : Value) (w0 W : World) : Prop where
  lo : Below B w0 W
  z : B ≤ W.heap.size
  sr : W.ownsRow B 3 1 s sn.length (intsV (natI sn))
  lr : W.ownsRow BL 3 1 lv l.length (intsV l)
  ap : lv.ownBlock = none ∨ lv.ownBlock ≠ s.ownBlock
  se : SeenG need N b sn k m
section
variable {need : Nat → List Nat} {N : Nat} {b : List Nat} {B BL : Nat} {lv : Value} {l : List Int} {sn : List Nat} {k m : Nat} {s v5 : Value} {w0 W w1 w5 : World}
theorem SnS.same {x j : Nat} (h : SnS need N b B BL lv l sn k m s w0 W) (hN : ∀ i, i < N → ∀ j, j ∈ need i → j < N) (hx : sn[k]? = some x) (hj : (need x)[m]? = some j) (hm : j ∈ sn) : SnS need N b B BL lv l sn k (m + 1) s w0 W := by
  have := h.se.add hN hx hj
  unfold addN at this
  rw [if_pos hm] at this
  exact ⟨h.lo, h.z, h.sr, h.lr, h.ap, this⟩
theorem SnS.more {x j : Nat} (h : SnS need N b B BL lv l sn k m s w0 W) (hN : ∀ i, i < N → ∀ j, j ∈ need i → j < N) (hx : sn[k]? = some x) (hj : (need x)[m]? = some j) (hm : j ∉ sn) (hb : Below W.heap.size W w1)
    (ho : w5.ownsRow B 3 1 v5 (sn.length + 1) (intsV (natI sn) ++ [.int .i64 (j : Int)])) (hg : w1.grownBy w5 s.ownBlock) (ht : v5.ownBlock = s.ownBlock ∨ v5.ownBlock = some w1.heap.size) : SnS need N b B BL lv l (sn ++ [j]) k (m + 1) v5 w0 w5 := by
  have hse := h.se.add hN hx hj
  unfold addN at hse
  rw [if_neg hm] at hse
  have hlr := ownsRow_grown h.lr hb
  refine ⟨?_, Nat.le_trans (Nat.le_trans h.z hb.size) hg.size, ?_, hlr.kept hg h.ap, ?_, hse⟩
  · have h1 := h.lo.trans (hb.mono h.z)
    exact h1.grown hg (Nat.le_trans h.z hb.size) (fun g e => (h.sr.lt g e).1)
  · rw [List.length_append, natI_snoc, intsV_append]; exact ho
  · rcases ht with e | e
    · rw [e]; exact h.ap
    · rw [e]
      cases hv : lv.ownBlock with
      | none => left; rfl
      | some g =>
        right
        have := (hlr.lt g hv).2
        intro e2
        injection e2 with e2
        omega
end
set_option maxHeartbeats 16000000 in
set_option maxRecDepth 100000 in
theorem returns_any (rv nv : Value) (rs : List PR) (ns : List PN) (i : Nat) (bb : Bool) (w : World) (hR : RulesIn w rv rs) (hN : NodesAt w nv ns) (hO : FlowOk rs ns) (hi : i < ns.length) (hbb : bb = true ↔ RchG (needW rs ns (lfp rs ns)) i i) :
    Calls Try.prog 17 #[.agg #[rv, nv], .int .i64 (i : Int)] w fun e w' => e = .returned (.bool bb) ∧ Below w.heap.size w w' := by
  have hs := hO.nl
  obtain ⟨ii, hii, hz0, hz1, hz2⟩ := info_parts infoInt
  have hone := one_new w (.cells #[rv, nv] 25)
  have HNI := Lib.hid (needW_in hO.ok (L := lfp rs ns))
  have HRD := Lib.hid (fun (x : Nat) (n : PN) (hn : ns[x]? = some n) => needs_read hO hn)
  have HNT := Lib.hid (fun (x : Nat) (n : PN) (hn : ns[x]? = some n) => natI_need hn (hO.ok n (List.mem_of_getElem? hn)))
  have HNd := Lib.hid (fun (W : World) (hb : Below w.heap.size w W) (x : Nat) (n : PN) (hn : ns[x]? = some n) => r12needs_any rv nv rs ns x n W (hR.kept hb (Nat.le_refl _)) (hN.kept hb (Nat.le_refl _)) hO hn)
  obtain ⟨-, ra, rc, rfl, -⟩ := hR
  obtain ⟨-, na, nc, rfl, -⟩ := hN
  obtain ⟨n, hn⟩ : ∃ n, ns[i]? = some n := ⟨_, List.getElem?_eq_getElem hi⟩
  unfold NeedIs at HNd
  have HG := Lib.hid (Bl.new w 25 #[.slice ra rs.length rc, .slice na ns.length nc])
  have hz : (w.alloc (.cells #[.slice ra rs.length rc, .slice na ns.length nc] 25)).heap.size = w.heap.size + 1 := by simp
  have HC1 := Lib.hid (HNd.out _ hone i n hn)
  rw [hz] at HC1
  have hq60 := (HRD.out i n hn).1
  have hwl := (HRD.out i n hn).2.1
  have HNT0 := Lib.hid (HNT.out i n hn)
  have HONE := Lib.hid hone
  have HHB := Lib.hid hbb
  have HZ := Lib.hid hz
  generalize hnd : needW rs ns (lfp rs ns) = need at *
  clear hO hone hz hbb
  go_enter Try.func17, Try.ntmps17
  go_wp2_with (go_at_call 14; (with_reducible refine HC1.out.mono ?_); rintro e w4 ⟨a4, c4, rfl, ho, hb⟩; have HO4 := Lib.hid ho; have HB4 := Lib.hid hb; clear ho hb)
  have hst : w4.ownsRow (w.heap.size + 1) 3 1 (.slice a4 (needN rs (lfp rs ns) n).length c4) (need i).length (intsV (natI (need i))) := by rw [HNT0.out, hwl]; exact HO4.out
  have HST := Lib.hid hst
  have hz4 : w.heap.size + 1 ≤ w4.heap.size := by have := HB4.out.size; rw [HZ.out] at this; exact this
  have HZ4 := Lib.hid hz4
  clear hst hz4
  generalize hW1 : w.alloc (.cells #[.slice ra rs.length rc, .slice na ns.length nc] 25) = W1 at *
  clear hW1 HC1 HO4
  go_loopg [5, 6] ((need i).length + ns.length) (fun g s c wr => ∃ (k : Nat) (sn : List Nat), k ≤ sn.length ∧ c = .int .i64 (k : Int) ∧ (need i).length + ns.length - k = g ∧ wr.ownsRow (w.heap.size + 1) 3 1 s sn.length (intsV (natI sn)) ∧ SeenG need ns.length (need i) sn k 0 ∧ Below (w.heap.size + 1) W1 wr ∧ w.heap.size + 1 ≤ wr.heap.size ∧ ∀ t, t < k → sn[t]? ≠ some i)
  case atStart => exact ⟨0, need i, Nat.zero_le _, rfl, rfl, HST.out, SeenG.start (fun x hx => HNI.out i hi x hx), HB4.out, HZ4.out, fun t h => absurd h (Nat.not_lt_zero _)⟩
  case round =>
    obtain ⟨k, sn, hk, rfl, hg, ho, hse, hb, hz, hno⟩ := hrel
    obtain ⟨sa, sc, rfl⟩ := own_slice' ho
    have hsl := hse.len
    have hgr := bl_low HG.out hb (Nat.lt_succ_self _)
    have g0 : wr.cell? ⟨w.heap.size, 0, none⟩ = some (.slice ra rs.length rc) := hgr.cell (o := 0) rfl
    have g1 : wr.cell? ⟨w.heap.size, 1, none⟩ = some (.slice na ns.length nc) := hgr.cell (o := 1) rfl
    have lg := hgr.lt
    have hbw : Below w.heap.size w wr := HONE.out.trans (hb.mono (Nat.le_succ _))
    by_cases hlt : k < sn.length
    · have k1 : (k : Int) < (sn.length : Int) := by omega
      obtain ⟨x, hx⟩ : ∃ x, sn[k]? = some x := ⟨_, List.getElem?_eq_getElem hlt⟩
      have hxN := hse.lt x (List.mem_of_getElem? hx)
      obtain ⟨sb, rfl, hsb, hc, -⟩ := own_open' ho (by omega)
      have cz := hc k _ (natI_at hx)
      have lz := lt_of_cell cz
      by_cases hxi : x = i
      · have q1 : ((x : Int) == (i : Int)) = true := by rw [hxi]; simp
        have HRT : Hid (bb = true) := Lib.hid (HHB.out.2 (from_needs.1 (hse.rch i (hxi ▸ List.mem_of_getElem? hx))))
        have HBW := Lib.hid hbw
        clear ho hse hb hno hc hx hgr hbw
        go_wp2
        go_ret
        exact ⟨ret_bool HRT.out.symm, HBW.out⟩
      · have q1 : ((x : Int) == (i : Int)) = false := ibeq_no (by omega)
        obtain ⟨y, hy⟩ : ∃ y, ns[x]? = some y := ⟨_, List.getElem?_eq_getElem hxN⟩
        have HC2 := Lib.hid (HNd.out wr.drew (below_drewN (m := 1) hbw) x y hy)
        have hz6 : wr.drew.heap.size = wr.heap.size := rfl
        rw [hz6] at HC2
        obtain ⟨hr1, hr2, hr3⟩ := HRD.out x y hy
        have HR3 := Lib.hid hr3
        have HX := Lib.hid hx
        have HO := Lib.hid ho
        have HSE := Lib.hid hse
        have HB := Lib.hid hb
        have HNO := Lib.hid hno
        generalize needN rs (lfp rs ns) y = q at *
        clear ho hse hb hno hc hx hgr hbw hy hr3 hz6
        go_upto_region 7 with fail
        go_cut [7] from 12 to 49 (fun v wx => ∃ a c, v = .slice a q.length c ∧ wx.ownsRow wr.heap.size 3 1 (.slice a q.length c) q.length (intsV q) ∧ Below wr.heap.size wr wx)
        case first =>
          go_region_with (go_at_call 14; (with_reducible refine HC2.out.mono ?_); rintro e w6 ⟨a6, c6, rfl, ho, hb⟩; have HO6 := Lib.hid ho; have HB6 := Lib.hid ((show Below wr.heap.size wr wr.drew from (Below.refl _ _).drew).trans hb); clear ho hb)
          all_goals go_wp2_with fail
          all_goals
            go_meet
            case rel => exact ⟨_, _, rfl, HO6.out, HB6.out⟩
        case rest =>
        obtain ⟨a6, c6, rfl, ho6, hb6⟩ := hcut
        have hap : (Value.slice a6 q.length c6).ownBlock = none ∨ (Value.slice a6 q.length c6).ownBlock ≠ (Value.slice (some ⟨sb, 0, none⟩) sn.length sc).ownBlock := by
          cases hv : (Value.slice a6 q.length c6).ownBlock with
          | none => left; rfl
          | some g' =>
            right
            have h1 := (ho6.lt g' hv).1
            intro e
            have h2 := (HO.out.lt g' e.symm).2
            omega
        have HS6 := Lib.hid (show SnS need ns.length (need i) (w.heap.size + 1) wr.heap.size (.slice a6 q.length c6) q sn k 0 (.slice (some ⟨sb, 0, none⟩) sn.length sc) W1 wc from ⟨HB.out.trans (hb6.mono hz), Nat.le_trans hz hb6.size, ownsRow_grown HO.out hb6, ho6, hap, HSE.out⟩)
        clear ho6 hb6 hap cz lz g0 g1 lg
        go_wp2_with fail
        obtain ⟨BL, hBL⟩ : ∃ BL, wr.heap.size = BL := ⟨_, rfl⟩
        rw [hBL] at HS6
        clear hBL HO HB HC2
        go_loopw [5, 8] (fun s c wx => ∃ (m : Nat) (sm : List Nat), m ≤ q.length ∧ c = .int .i64 (m : Int) ∧ SnS need ns.length (need i) (w.heap.size + 1) BL (.slice a6 q.length c6) q sm k m s W1 wx ∧ sn.length ≤ sm.length ∧ ∀ t, t < sn.length → sm[t]? = sn[t]?) (fun _ c _ => q.length - (intOf c).toNat)
        case atStart => exact ⟨0, sn, Nat.zero_le _, rfl, HS6.out, Nat.le_refl _, fun t _ => rfl⟩
        case round =>
          clear HS6
          obtain ⟨m, sm, hm, rfl, hS, hsm, hpre⟩ := hrel
          have HPRE := Lib.hid hpre
          obtain ⟨ta, tc, rfl⟩ := own_slice' hS.sr
          have hsl2 := hS.se.len
          have hx2 : sm[k]? = some x := by rw [hpre k hlt]; exact HX.out
          clear hpre
          by_cases hmq : m < q.length
          · have m1 : (m : Int) < (q.length : Int) := by omega
            obtain ⟨z, hzz⟩ : ∃ z, q[m]? = some z := ⟨_, List.getElem?_eq_getElem hmq⟩
            obtain ⟨j, rfl, hj, hwj⟩ := HR3.out m z hzz
            obtain ⟨lb, e1, -, hlc, -⟩ := own_open' hS.lr (by omega)
            cases e1
            have cl := hlc m (.int .i64 (j : Int)) (by unfold intsV; rw [List.getElem?_map, hzz]; rfl)
            have ll := lt_of_cell cl
            have his : IntsAt wr (.slice ta sm.length tc) (natI sm) := IntsAt.of_own (base := w.heap.size + 1) (by rw [natI_len]; exact hS.sr)
            have hzz2 := hS.z
            have HS := Lib.hid hS
            have HX2 := Lib.hid hx2
            have HWJ := Lib.hid hwj
            have HIS := Lib.hid his
            clear hS hx2 hwj his hlc hzz
            by_cases hmem : j ∈ sm
            · have HH := Lib.hid (has_int _ (natI sm) (j : Int) true wr (by rw [natI_len]; omega) HIS.out (decide_eq_true (natI_mem.2 hmem)))
              have HM := Lib.hid hmem
              clear hmem
              go_wp2_with (go_at_call 16; (with_reducible refine HH.out.mono ?_); rintro e w7 ⟨rfl, hw⟩; obtain rfl := hw.symm; clear hw)
              go_roundw
              case rel => exact ⟨m + 1, sm, by omega, by go_num, HS.out.same HNI.out HX2.out HWJ.out HM.out, hsm, HPRE.out⟩
              case measure => simp [intOf]; omega
            · have HH := Lib.hid (has_int _ (natI sm) (j : Int) false wr (by rw [natI_len]; omega) HIS.out (decide_eq_false (fun h => hmem (natI_mem.1 h))))
              have HM := Lib.hid hmem
              clear hmem
              go_wp2_with (first
                | (go_at_call 16; (with_reducible refine HH.out.mono ?_); rintro e w7 ⟨rfl, hw⟩; obtain rfl := hw.symm; clear hw)
                | (at_builtin; (refine wpList_append_own_at _ rfl _ _ 30 rfl (w.heap.size + 1) 3 ii _ 1 8 Try.underlying30 hii hz0 hz1 hz2 rfl (by decide) _ sm.length _ rfl (ownsRow_grown HS.out.sr (one_new _ _)) ⟨_, 0, none⟩ 1 1 [.int .i64 (j : Int)] rfl rfl (Bl.news (Bl.new _ 3 _)) (by simp [Value.oneCell']) (by unfold maxLen; omega) (by omega) (by have := HS.out.z; simp; omega) ?_); intro v8 w8 hown' hgrow _ hat; have HO8 := Lib.hid hown'; have HG8 := Lib.hid hgrow; have HT8 := Lib.hid hat; clear hown' hgrow hat))
              go_roundw
              case rel => exact ⟨m + 1, sm ++ [j], by omega, by go_num, HS.out.more HNI.out HX2.out HWJ.out HM.out (one_new _ _) HO8.out HG8.out HT8.out, by rw [List.length_append]; omega, fun t ht => by rw [List.getElem?_append_left (by omega)]; exact HPRE.out t ht⟩
              case measure => simp [intOf]; omega
          · obtain rfl : m = q.length := by omega
            have m1 : ¬ (q.length : Int) < (q.length : Int) := by omega
            have HS := Lib.hid hS
            have HX2 := Lib.hid hx2
            clear hS hx2
            go_wp2
            go_roundg ((need i).length + ns.length - (k + 1))
            case measure => omega
            case rel =>
              refine ⟨k + 1, sm, by omega, by first | rfl | go_num | omega, rfl, HS.out.sr, HS.out.se.step HX2.out (by omega), HS.out.lo, HS.out.z, fun t ht => ?_⟩
              rw [HPRE.out t (by omega)]
              by_cases e : t = k
              · subst e
                rw [HX.out]
                intro e2
                exact hxi (Option.some.inj e2)
              · exact HNO.out t (by omega)
    · obtain rfl : k = sn.length := by omega
      have k1 : ¬ (sn.length : Int) < (sn.length : Int) := by omega
      have HRT : Hid (bb = false) := Lib.hid (by
        cases hbb : bb with
        | false => rfl
        | true =>
          have h1 := (hse.over (Nat.le_refl _) i).2 (from_needs.2 (HHB.out.1 hbb))
          obtain ⟨t, ht, e⟩ := List.mem_iff_getElem.1 h1
          exact absurd (by rw [List.getElem?_eq_getElem ht, e]) (hno t ht))
      have HBW := Lib.hid hbw
      clear ho hse hb hno hgr hbw
      go_wp2
      go_ret
      exact ⟨ret_bool HRT.out.symm, HBW.out⟩
end Go.Proofs.Ytnfjbjmdempafaa
