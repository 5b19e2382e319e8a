/- The law FlowRises. -/
import Derived.Deep.RegionWith
import Derived.Deep.RegionHeld3
import Derived.Deep.Cut
import Derived.Test.YtocklhehfdilmaaPkFlowAw
import Derived.Test.YtocklhehfdilmaaPkFlowROf
import Derived.Test.YtocklhehfdilmaaPkFlowLaw0
import Derived.Test.YtocklhehfdilmaaPkFlowReg
namespace Go.Proofs.Ytocklhehfdilmaa
open Go.RowKit
/-- The facts of two lists. -/
def orF (f g : Fc) : Fc := ⟨f.nul || g.nul, f.eat || g.eat, f.fai || g.fai⟩
def orL : List Fc → List Fc → List Fc
  | f :: l, g :: m => orF f g :: orL l m
  | _, _ => []
theorem orL_length : ∀ {l m : List Fc}, m.length = l.length → (orL l m).length = l.length
  | [], [], _ => rfl
  | f :: l, g :: m, h => by show (orL l m).length + 1 = l.length + 1; rw [orL_length (by simpa using h)]
  | [], _ :: _, h => by simp at h
  | _ :: _, [], h => by simp at h
theorem orL_at : ∀ {l m : List Fc} {i : Nat} {x y : Fc}, l[i]? = some x → m[i]? = some y → (orL l m)[i]? = some (orF x y)
  | f :: l, g :: m, 0, x, y, hx, hy => by
    obtain rfl : f = x := by simpa using hx
    obtain rfl : g = y := by simpa using hy
    rfl
  | f :: l, g :: m, i + 1, x, y, hx, hy => by
    show (orL l m)[i]? = _
    exact orL_at (by simpa using hx) (by simpa using hy)
  | [], _, i, x, y, hx, _ => by simp at hx
  | _ :: _, [], i, x, y, _, hy => by simp at hy
theorem orL_le {l m : List Fc} (h : m.length = l.length) : LeL l (orL l m) := by
  refine LeL.of (orL_length h).symm fun i x y hx hy => ?_
  obtain ⟨z, hz⟩ : ∃ z, m[i]? = some z := ⟨_, List.getElem?_eq_getElem (by rw [h]; exact (List.getElem?_eq_some_iff.1 hx).1)⟩
  rw [orL_at hx hz] at hy
  obtain rfl := Option.some.inj hy
  exact ⟨fun e => by unfold orF; rw [e]; rfl, fun e => by unfold orF; rw [e]; rfl, fun e => by unfold orF; rw [e]; rfl⟩
theorem rd4K {n0 lb lo mb mo k : Nat} {xa xb xc ya yb yc : Bool} {w W W' : World} (hl : lb < n0) (hm : mb < n0) (h : W.cell? ⟨lb, lo + k * 3, none⟩ = some (.bool xa) ∧ W.cell? ⟨lb, lo + k * 3 + 1, none⟩ = some (.bool xb) ∧ W.cell? ⟨lb, lo + k * 3 + 2, none⟩ = some (.bool xc) ∧ W.cell? ⟨mb, mo + k * 3, none⟩ = some (.bool ya) ∧ W.cell? ⟨mb, mo + k * 3 + 1, none⟩ = some (.bool yb) ∧ W.cell? ⟨mb, mo + k * 3 + 2, none⟩ = some (.bool yc) ∧ Below n0 w W) (hb : Below n0 W W') : W'.cell? ⟨lb, lo + k * 3, none⟩ = some (.bool xa) ∧ W'.cell? ⟨lb, lo + k * 3 + 1, none⟩ = some (.bool xb) ∧ W'.cell? ⟨lb, lo + k * 3 + 2, none⟩ = some (.bool xc) ∧ W'.cell? ⟨mb, mo + k * 3, none⟩ = some (.bool ya) ∧ W'.cell? ⟨mb, mo + k * 3 + 1, none⟩ = some (.bool yb) ∧ W'.cell? ⟨mb, mo + k * 3 + 2, none⟩ = some (.bool yc) ∧ Below n0 w W' := by
  obtain ⟨a0, a1, a2, b0, b1, b2, hB⟩ := h
  have hc := (bcell hb).1
  exact ⟨by rw [hc _ _ hl]; exact a0, by rw [hc _ _ hl]; exact a1, by rw [hc _ _ hl]; exact a2, by rw [hc _ _ hm]; exact b0, by rw [hc _ _ hm]; exact b1, by rw [hc _ _ hm]; exact b2, hB.trans hb⟩
theorem law4K {n0 G rc nc uc : Nat} {ra na ua : Option Addr} {rs : List PR} {ns : List PN} {l m : List Fc} {w W W' : World} (hn : n0 ≤ w.heap.size) (hb : Below W.heap.size W W') (h : W.cell? ⟨G, 0, none⟩ = some (.slice ra rs.length rc) ∧ W.cell? ⟨G, 1, none⟩ = some (.slice na ns.length nc) ∧ FactsAt W (.slice ua ns.length uc) (orL l m) ∧ Below n0 w W) : W'.cell? ⟨G, 0, none⟩ = some (.slice ra rs.length rc) ∧ W'.cell? ⟨G, 1, none⟩ = some (.slice na ns.length nc) ∧ FactsAt W' (.slice ua ns.length uc) (orL l m) ∧ Below n0 w W' := by
  obtain ⟨h0, h1, hF, hB⟩ := h
  have hk : ∀ {b o : Nat} {v : Value}, W.cell? ⟨b, o, none⟩ = some v → W'.cell? ⟨b, o, none⟩ = some v := fun h => by rw [(bcell hb).1 _ _ (lt_of_cell h)]; exact h
  exact ⟨hk h0, hk h1, hF.below hb, hB.trans (hb.mono (Nat.le_trans hn hB.size))⟩
theorem law4K9 {n0 G rc nc uc c6 : Nat} {ra na ua a6 : Option Addr} {rs : List PR} {ns : List PN} {l m : List Fc} {w W W' : World} (hn : n0 ≤ w.heap.size) (hb : Below W.heap.size W W') (h : W.cell? ⟨G, 0, none⟩ = some (.slice ra rs.length rc) ∧ W.cell? ⟨G, 1, none⟩ = some (.slice na ns.length nc) ∧ FactsAt W (.slice ua ns.length uc) (orL l m) ∧ FactsAt W (.slice a6 (stepF rs ns l).length c6) (stepF rs ns l) ∧ Below n0 w W) : W'.cell? ⟨G, 0, none⟩ = some (.slice ra rs.length rc) ∧ W'.cell? ⟨G, 1, none⟩ = some (.slice na ns.length nc) ∧ FactsAt W' (.slice ua ns.length uc) (orL l m) ∧ FactsAt W' (.slice a6 (stepF rs ns l).length c6) (stepF rs ns l) ∧ Below n0 w W' := by
  obtain ⟨h0, h1, hF, hA, hB⟩ := h
  obtain ⟨g0, g1, gF, gB⟩ := law4K hn hb ⟨h0, h1, hF, hB⟩
  exact ⟨g0, g1, gF, hA.below hb, gB⟩
set_option maxHeartbeats 16000000 in
set_option maxRecDepth 100000 in
theorem law11_rises (rv nv lv mv : Value) (rs : List PR) (ns : List PN) (l m : List Fc) (w : World) (hR : RulesIn w rv rs) (hN : NodesAt w nv ns) (hL : FactsAt w lv l) (hM : FactsAt w mv m) :
    Calls Try.prog 6 #[.agg #[rv, nv], lv, mv] w fun e w' => e = .returned (.bool true) ∧ Below w.heap.size w w' := by
  have HS := Lib.hid (fun (W : World) (hb : Below w.heap.size w W) => rsmall_any rv nv rs ns W (hR.kept hb (Nat.le_refl _)) (hN.kept hb (Nat.le_refl _)))
  obtain ⟨la, lc, rfl⟩ := hL.slice
  obtain ⟨ma, mc, rfl⟩ := hM.slice
  obtain ⟨na, nc, rfl⟩ : ∃ na nc, nv = .slice na ns.length nc := by obtain ⟨-, na, nc, rfl, -⟩ := hN; exact ⟨na, nc, rfl⟩
  cases hsm : (fewB rs ns && okB (chkL rs ns)) with
  | false =>
    rw [hsm] at HS
    obtain ⟨-, ra, rc, rfl, -⟩ := hR
    clear hsm hN hL hM
    go_enter Try.func6, Try.ntmps6
    go_upto_region 2 with (first
      | (go_at_call 8; (with_reducible refine (awake11_any _).mono ?_); rintro e w2 ⟨rfl, hb⟩; have HW := Lib.hid (bl_on (one_new w _) hb); have b0 := (bcell hb).1 w.heap.size 0 (by simp); have b1 := (bcell hb).1 w.heap.size 1 (by simp); simp at b0 b1; clear hb)
      | (go_at_call 9; (with_reducible refine (HS.out _ HW.out).mono ?_); rintro e w3 ⟨rfl, hb⟩; replace HW := Lib.hid (bl_on HW.out hb); clear hb b0 b1))
    go_wp2_with (go_at_call 8; (with_reducible refine (awake11_any _).mono ?_); rintro e w4 ⟨rfl, hb⟩; replace HW := Lib.hid (bl_on HW.out hb); clear hb)
    go_ret
    exact ⟨rfl, HW.out⟩
  | true =>
    obtain ⟨hO, -, -⟩ := small11 hsm
    rw [hsm] at HS
    by_cases hlen : l.length = ns.length ∧ m.length = ns.length
    · obtain ⟨hl, hm⟩ := hlen
      have hs := hO.nl
      have hor : (orL l m).length = ns.length := by rw [orL_length (by rw [hl, hm])]; exact hl
      have HLF1 := Lib.hid (fun (v : Value) (W : World) (hF : FactsAt W v l) => facts11_any v l W hF (by omega))
      have HLF2 := Lib.hid (fun (v : Value) (W : World) (hF : FactsAt W v (orL l m)) => facts11_any v (orL l m) W hF (by omega))
      have HP1 := Lib.hid (fun (v : Value) (W : World) (hb : Below w.heap.size w W) (hF : FactsAt W v l) => fstep_any rv _ v rs ns l W (hR.kept hb (Nat.le_refl _)) (hN.kept hb (Nat.le_refl _)) hF (fun n hn => (hO.ok n hn).ok) (by omega))
      have HP2 := Lib.hid (fun (v : Value) (W : World) (hb : Below w.heap.size w W) (hF : FactsAt W v (orL l m)) => fstep_any rv _ v rs ns (orL l m) W (hR.kept hb (Nat.le_refl _)) (hN.kept hb (Nat.le_refl _)) hF (fun n hn => (hO.ok n hn).ok) (by omega))
      have HBk1 := Lib.hid (fun (v : Value) (W : World) (hF : FactsAt W v (stepF rs ns l)) => back11_any v _ W hF (by rw [stepF_length]; omega))
      have HBk2 := Lib.hid (fun (v : Value) (W : World) (hF : FactsAt W v (stepF rs ns (orL l m))) => back11_any v _ W hF (by rw [stepF_length]; omega))
      have HBk3 := Lib.hid (fun (v : Value) (W : World) (hF : FactsAt W v (lfp rs ns)) => back11_any v _ W hF (by rw [lfp_length]; omega))
      have HOf := Lib.hid (fun (W : World) (hb : Below w.heap.size w W) => fof_any rv _ rs ns W (hR.kept hb (Nat.le_refl _)) (hN.kept hb (Nat.le_refl _)) hO)
      have HW1 := Lib.hid (fun (u v : Value) (W : World) (hu : FactsAt W u (stepF rs ns l)) (hv : FactsAt W v (stepF rs ns (orL l m))) => rwithin_any u v _ _ true W hu hv (by rw [stepF_length, stepF_length]) (by rw [stepF_length]; omega) ⟨fun _ => step_mono (orL_le (by rw [hl, hm])), fun _ => rfl⟩)
      have HW3 := Lib.hid (fun (h : LeL (stepF rs ns (orL l m)) (orL l m)) (u v : Value) (W : World) (hu : FactsAt W u (lfp rs ns)) (hv : FactsAt W v (orL l m)) => rwithin_any u v _ _ true W hu hv (by rw [lfp_length, hor]) (by rw [lfp_length]; omega) ⟨fun _ => lfp_least hor h, fun _ => rfl⟩)
      have HW2 := Lib.hid (fun (b : Bool) (hb : b = true ↔ LeL (stepF rs ns (orL l m)) (orL l m)) (u v : Value) (W : World) (hu : FactsAt W u (stepF rs ns (orL l m))) (hv : FactsAt W v (orL l m)) => rwithin_any u v _ _ b W hu hv (by rw [stepF_length, hor]) (by rw [stepF_length]; omega) hb)
      have HLl := Lib.hid (fun (W : World) (hb : Below w.heap.size w W) => hL.kept hb (Nat.le_refl _))
      have HXY := Lib.hid (fun (k : Nat) (hk : k < ns.length) => (show ∃ x y, l[k]? = some x ∧ m[k]? = some y from ⟨_, _, List.getElem?_eq_getElem (by omega), List.getElem?_eq_getElem (by omega)⟩))
      have HAT := Lib.hid (fun (k : Nat) (x y : Fc) (hx : l[k]? = some x) (hy : m[k]? = some y) => (show ∃ lb lo mb mo, (la = some ⟨lb, lo, none⟩ ∧ FactAt w lb (lo + k * 3) x) ∧ (ma = some ⟨mb, mo, none⟩ ∧ FactAt w mb (mo + k * 3) y) from by obtain ⟨lb, lo, e1, h1⟩ := hL.at hx; obtain ⟨mb, mo, e2, h2⟩ := hM.at hy; exact ⟨lb, lo, mb, mo, ⟨e1, h1⟩, e2, h2⟩))
      have HTK := Lib.hid (fun (k : Nat) (x y : Fc) (hx : l[k]? = some x) (hy : m[k]? = some y) => factsC_take (orL_at hx hy))
      have HLE := Lib.hid hl
      have HST := Lib.hid (fun p : List Fc => stepF_length rs ns p)
      have HLL := Lib.hid (lfp_length rs ns)
      have HOR := Lib.hid hor
      rw [hl] at HLl
      unfold NewF at HLF1 HLF2 HP1 HP2 HBk1 HBk2 HBk3 HOf
      rw [hl] at HLF1
      rw [hor] at HLF2
      obtain ⟨-, ra, rc, rfl, -⟩ := hR
      rw [hl, hm]
      obtain ⟨ii, hii, hz0, hz1, hz2⟩ := info_parts infoFactsR
      clear hsm hN hL hM hO hl hm hor
      go_enter Try.func6, Try.ntmps6
      go_upto_region 3 with (first
        | (go_at_call 8; (with_reducible refine (awake11_any _).mono ?_); rintro e w2 ⟨rfl, hb⟩; have HW := Lib.hid (bl_on (one_new w _) hb); have HG := Lib.hid ((Bl.new w 25 #[.slice ra rs.length rc, .slice na ns.length nc]).below hb); have b0 : w2.cell? ⟨w.heap.size, 0, none⟩ = some (.slice ra rs.length rc) := HG.out.cell (o := 0) rfl; have b1 : w2.cell? ⟨w.heap.size, 1, none⟩ = some (.slice na ns.length nc) := HG.out.cell (o := 1) rfl; clear hb)
        | (go_at_call 9; (with_reducible refine (HS.out _ HW.out).mono ?_); rintro e w3 ⟨rfl, hb⟩; replace HW := Lib.hid (bl_on HW.out hb); replace HG := Lib.hid (HG.out.below hb); have d0 : w3.cell? ⟨w.heap.size, 0, none⟩ = some (.slice ra rs.length rc) := HG.out.cell (o := 0) rfl; have d1 : w3.cell? ⟨w.heap.size, 1, none⟩ = some (.slice na ns.length nc) := HG.out.cell (o := 1) rfl; clear hb b0 b1))
      go_wp2
      go_loopw [7, 8] (fun u c wr => ∃ k : Nat, k ≤ ns.length ∧ c = .int .i64 (k : Int) ∧ wr.ownsRow (w.heap.size + 1) 35 3 u k (factsC ((orL l m).take k)) ∧ Bl wr w.heap.size 25 #[.slice ra rs.length rc, .slice na ns.length nc] ∧ Below w.heap.size w wr) (fun _ c _ => ns.length - (intOf c).toNat)
      case atStart => exact ⟨0, Nat.zero_le _, rfl, World.ownsRow_nil _ _ _ _, HG.out, HW.out⟩
      case round =>
        clear d0 d1 HG HW
        obtain ⟨k, hk, rfl, ho, hg, hb⟩ := hrel
        obtain ⟨ua, uc, rfl⟩ := own_slice' ho
        have HO := Lib.hid ho
        have HG := Lib.hid hg
        have HB := Lib.hid hb
        clear ho hg hb
        by_cases hlt : k < ns.length
        · have k1 : (k : Int) < (ns.length : Int) := by omega
          obtain ⟨x, y, hx, hy⟩ := HXY.out k hlt
          obtain ⟨lb, lo, mb, mo, ⟨rfl, hfl⟩, rfl, hfm⟩ := HAT.out k x y hx hy
          have hlb := lt_of_cell hfl.1
          have hmb := lt_of_cell hfm.1
          have HT := Lib.hid (HTK.out k x y hx hy)
          obtain ⟨a0, a1, a2⟩ := hfl
          obtain ⟨b0, b1, b2⟩ := hfm
          unfold orF at HT
          clear hx hy
          obtain ⟨xa, xb, xc⟩ := x
          obtain ⟨ya, yb, yc⟩ := y
          obtain ⟨n0, hn0⟩ : ∃ n0, w.heap.size = n0 := ⟨_, rfl⟩
          have HN0 := Lib.hid hn0
          have hS0 := rd4K (n0 := n0) (w := w) (W := w) (by rw [← hn0]; exact hlb) (by rw [← hn0]; exact hmb) ⟨a0, a1, a2, b0, b1, b2, Below.refl _ _⟩ (by rw [← hn0]; exact HB.out)
          have hlb0 : lb < n0 := by omega
          have hmb0 : mb < n0 := by omega
          have hwn : n0 ≤ wr.heap.size := by rw [← hn0]; exact HB.out.size
          have hsz : n0 + 1 ≤ wr.heap.size := by rw [← hn0]; exact HG.out.lt
          rw [hn0] at HO
          have HS0 := Lib.hid hS0
          clear a0 a1 a2 b0 b1 b2 hn0 hS0
          obtain ⟨cs, hcs⟩ : ∃ cs, factsC ((orL l m).take k) = cs := ⟨_, rfl⟩
          obtain ⟨elem, hel⟩ : ∃ e : List Value, e = [.bool (xa || ya), .bool (xb || yb), .bool (xc || yc)] := ⟨_, rfl⟩
          have HCS := Lib.hid hcs
          have HEL := Lib.hid hel
          rw [hcs] at HO
          have hln : cs.length = k * 3 := HO.out.1
          have hell : elem.length = 3 := by rw [hel]; rfl
          have hB : Below (n0 + 1) wr wr.drew ∧ FRK (n0 + 1) 35 (k * 3) elem wr wr.drew := ⟨(Below.refl _ _).drew, Nat.le_refl _, fun _ c _ h => ⟨c, h, rfl, fun _ _ => .inl rfl⟩⟩
          clear hcs
          go_upto_region 7 with (fail)
          refine wp_region_un (by kernel_rfl) (LwT (n0 + 1) lb lo lc mb mo mc ns.length k uc ua xa xb xc ya yb yc cs elem) (FRK (n0 + 1) 35 (k * 3) elem) (fun _ W => Below (n0 + 1) wr W ∧ FRK (n0 + 1) 35 (k * 3) elem wr W) (by kernel_rfl) (by kernel_rfl) (by kernel_rfl) (LwT_mono _ _ _ _ _ _ _ _ _ _ _ _ _ _ _ _ _ _ _ hln) hB ?steps ?done
          case steps =>
            refine ⟨?_, ?_, ?_, ?_, ?_, ?_, ?_, ?_, ?_, ?_, ?_, ?_, ?_, ?_, ?_, ?_, ?_, ?_, ?_, ?_, ?_, ?_, ?_, ?_, ?_, ?_, ?_, ?_, ?_, ?_, ?_, ?_, ?_, ?_, ?_, ?_, ?_, ?_, ?_, ?_, ?_, trivial⟩
            · intro L a W hL hj hS hk hd
              have p : a.eval (.tmp 7) = .slice ua k uc := hk 7 (un_last (i := 40) (by kernel_rfl) (hj 40 (by kernel_rfl)))
              have hO2 := hS.2.row HO.out (.inl (Nat.le_refl _))
              clear hk hd hj
              refine pay_plain rfl ?_
              exact on_value (.slice ua k uc) (by generalize a.eval = ρ at *; simp [go_sem, p]) ⟨rfl, hO2⟩ .refl hS
            · intro L a W hL hj hS hk hd
              have p : a.eval (.tmp 1) = .slice (some ⟨lb, lo, none⟩) ns.length lc := hk 1 (un_none (by kernel_rfl))
              clear hk hd hj
              refine pay_plain rfl ?_
              exact on_value (.slice (some ⟨lb, lo, none⟩) ns.length lc) (by generalize a.eval = ρ at *; simp [go_sem, p]) rfl .refl hS
            · intro L a W hL hj hS hk hd
              have p : a.eval (.tmp 8) = .int .i64 (k : Int) := hk 8 (un_none (by kernel_rfl))
              clear hk hd hj
              refine pay_plain rfl ?_
              exact on_value (.int .i64 (k : Int)) (by generalize a.eval = ρ at *; simp [go_sem, p]) rfl .refl hS
            · intro L a W hL hj hS hk hd
              have p1 : a.eval (.tmp 42) = .slice (some ⟨lb, lo, none⟩) ns.length lc := hd 1 42 (by kernel_rfl)
              have p2 : a.eval (.tmp 43) = .int .i64 (k : Int) := hd 2 43 (by kernel_rfl)
              clear hk hd hj
              refine pay_plain rfl ?_
              exact on_value (.pointer (some ⟨lb, lo + k * 3, none⟩)) (by generalize a.eval = ρ at *; simp [go_sem, p1, p2, k1]) rfl .refl hS
            · intro L a W hL hj hS hk hd
              have p1 : a.eval (.tmp 44) = .pointer (some ⟨lb, lo + k * 3, none⟩) := hd 3 44 (by kernel_rfl)
              clear hk hd hj
              refine pay_plain rfl ?_
              exact on_value (.pointer (some ⟨lb, lo + k * 3, none⟩)) (by generalize a.eval = ρ at *; simp [go_sem, p1]) rfl .refl hS
            · intro L a W hL hj hS hk hd
              have p1 : a.eval (.tmp 45) = .pointer (some ⟨lb, lo + k * 3, none⟩) := hd 4 45 (by kernel_rfl)
              obtain ⟨a0, a1, a2, b0, b1, b2, -⟩ := rd4K hlb0 hmb0 HS0.out (hS.1.mono (Nat.le_succ n0))
              clear hk hd hj
              refine pay_plain rfl ?_
              exact on_value (.bool xa) (by generalize a.eval = ρ at *; simp [go_sem, p1, a0]) rfl .refl hS
            · intro L a W hL hj hS hk hd
              have p1 : a.eval (.tmp 46) = .bool xa := hd 5 46 (by kernel_rfl)
              clear hk hd hj
              refine pay_plain rfl ?_
              exact on_value (.bool xa) (by generalize a.eval = ρ at *; simp [go_sem, p1]) rfl .refl hS
            · intro L a W hL hj hS hk hd
              have p : a.eval (.tmp 2) = .slice (some ⟨mb, mo, none⟩) ns.length mc := hk 2 (un_none (by kernel_rfl))
              cases xa with
              | true =>
                have hg : a.eval (.tmp 47) = .bool true := hd 6 47 (by kernel_rfl)
                exact pay_skip (b := false) rfl rfl hg (by decide) ⟨fun h => (by cases h), .refl, hS⟩
              | false =>
                have hg : a.eval (.tmp 47) = .bool false := hd 6 47 (by kernel_rfl)
                clear hk hd hj
                refine pay_guard (j := 6) (b := false) (d := 47) rfl rfl hg ?_
                exact on_value (.slice (some ⟨mb, mo, none⟩) ns.length mc) (by generalize a.eval = ρ at *; simp [go_sem, p]) (fun _ => rfl) .refl hS
            · intro L a W hL hj hS hk hd
              have p : a.eval (.tmp 8) = .int .i64 (k : Int) := hk 8 (un_none (by kernel_rfl))
              cases xa with
              | true =>
                have hg : a.eval (.tmp 47) = .bool true := hd 6 47 (by kernel_rfl)
                exact pay_skip (b := false) rfl rfl hg (by decide) ⟨fun h => (by cases h), .refl, hS⟩
              | false =>
                have hg : a.eval (.tmp 47) = .bool false := hd 6 47 (by kernel_rfl)
                clear hk hd hj
                refine pay_guard (j := 6) (b := false) (d := 47) rfl rfl hg ?_
                exact on_value (.int .i64 (k : Int)) (by generalize a.eval = ρ at *; simp [go_sem, p]) (fun _ => rfl) .refl hS
            · intro L a W hL hj hS hk hd
              cases xa with
              | true =>
                have hg : a.eval (.tmp 47) = .bool true := hd 6 47 (by kernel_rfl)
                exact pay_skip (b := false) rfl rfl hg (by decide) ⟨fun h => (by cases h), .refl, hS⟩
              | false =>
                have hg : a.eval (.tmp 47) = .bool false := hd 6 47 (by kernel_rfl)
                have p1 : a.eval (.tmp 48) = .slice (some ⟨mb, mo, none⟩) ns.length mc := hd 7 48 (by kernel_rfl) rfl
                have p2 : a.eval (.tmp 49) = .int .i64 (k : Int) := hd 8 49 (by kernel_rfl) rfl
                clear hk hd hj
                refine pay_guard (j := 6) (b := false) (d := 47) rfl rfl hg ?_
                exact on_value (.pointer (some ⟨mb, mo + k * 3, none⟩)) (by generalize a.eval = ρ at *; simp [go_sem, p1, p2, k1]) (fun _ => rfl) .refl hS
            · intro L a W hL hj hS hk hd
              cases xa with
              | true =>
                have hg : a.eval (.tmp 47) = .bool true := hd 6 47 (by kernel_rfl)
                exact pay_skip (b := false) rfl rfl hg (by decide) ⟨fun h => (by cases h), .refl, hS⟩
              | false =>
                have hg : a.eval (.tmp 47) = .bool false := hd 6 47 (by kernel_rfl)
                have p1 : a.eval (.tmp 50) = .pointer (some ⟨mb, mo + k * 3, none⟩) := hd 9 50 (by kernel_rfl) rfl
                clear hk hd hj
                refine pay_guard (j := 6) (b := false) (d := 47) rfl rfl hg ?_
                exact on_value (.pointer (some ⟨mb, mo + k * 3, none⟩)) (by generalize a.eval = ρ at *; simp [go_sem, p1]) (fun _ => rfl) .refl hS
            · intro L a W hL hj hS hk hd
              obtain ⟨a0, a1, a2, b0, b1, b2, -⟩ := rd4K hlb0 hmb0 HS0.out (hS.1.mono (Nat.le_succ n0))
              cases xa with
              | true =>
                have hg : a.eval (.tmp 47) = .bool true := hd 6 47 (by kernel_rfl)
                exact pay_skip (b := false) rfl rfl hg (by decide) ⟨fun h => (by cases h), .refl, hS⟩
              | false =>
                have hg : a.eval (.tmp 47) = .bool false := hd 6 47 (by kernel_rfl)
                have p1 : a.eval (.tmp 51) = .pointer (some ⟨mb, mo + k * 3, none⟩) := hd 10 51 (by kernel_rfl) rfl
                clear hk hd hj
                refine pay_guard (j := 6) (b := false) (d := 47) rfl rfl hg ?_
                exact on_value (.bool ya) (by generalize a.eval = ρ at *; simp [go_sem, p1, b0]) (fun _ => rfl) .refl hS
            · intro L a W hL hj hS hk hd
              have hC : a.eval (.const (.bool true)) = .bool true := rfl
              cases xa with
              | true =>
                have p1 : a.eval (.tmp 47) = .bool true := hd 6 47 (by kernel_rfl)
                clear hk hd hj
                refine pay_plain rfl ?_
                exact on_value (.bool true) (by generalize a.eval = ρ at *; simp [go_sem, p1, hC]) rfl .refl hS
              | false =>
                have p1 : a.eval (.tmp 47) = .bool false := hd 6 47 (by kernel_rfl)
                have p2 : a.eval (.tmp 52) = .bool ya := hd 11 52 (by kernel_rfl) rfl
                clear hk hd hj
                refine pay_plain rfl ?_
                exact on_value (.bool ya) (by generalize a.eval = ρ at *; simp [go_sem, p1, p2]) (show Value.bool _ = Value.bool _ from rfl) .refl hS
            · intro L a W hL hj hS hk hd
              have p : a.eval (.tmp 1) = .slice (some ⟨lb, lo, none⟩) ns.length lc := hk 1 (un_none (by kernel_rfl))
              clear hk hd hj
              refine pay_plain rfl ?_
              exact on_value (.slice (some ⟨lb, lo, none⟩) ns.length lc) (by generalize a.eval = ρ at *; simp [go_sem, p]) rfl .refl hS
            · intro L a W hL hj hS hk hd
              have p : a.eval (.tmp 8) = .int .i64 (k : Int) := hk 8 (un_none (by kernel_rfl))
              clear hk hd hj
              refine pay_plain rfl ?_
              exact on_value (.int .i64 (k : Int)) (by generalize a.eval = ρ at *; simp [go_sem, p]) rfl .refl hS
            · intro L a W hL hj hS hk hd
              have p1 : a.eval (.tmp 54) = .slice (some ⟨lb, lo, none⟩) ns.length lc := hd 13 54 (by kernel_rfl)
              have p2 : a.eval (.tmp 55) = .int .i64 (k : Int) := hd 14 55 (by kernel_rfl)
              clear hk hd hj
              refine pay_plain rfl ?_
              exact on_value (.pointer (some ⟨lb, lo + k * 3, none⟩)) (by generalize a.eval = ρ at *; simp [go_sem, p1, p2, k1]) rfl .refl hS
            · intro L a W hL hj hS hk hd
              have p1 : a.eval (.tmp 56) = .pointer (some ⟨lb, lo + k * 3, none⟩) := hd 15 56 (by kernel_rfl)
              clear hk hd hj
              refine pay_plain rfl ?_
              exact on_value (.pointer (some ⟨lb, lo + k * 3 + 1, none⟩)) (by generalize a.eval = ρ at *; simp [go_sem, p1]) rfl .refl hS
            · intro L a W hL hj hS hk hd
              have p1 : a.eval (.tmp 57) = .pointer (some ⟨lb, lo + k * 3 + 1, none⟩) := hd 16 57 (by kernel_rfl)
              obtain ⟨a0, a1, a2, b0, b1, b2, -⟩ := rd4K hlb0 hmb0 HS0.out (hS.1.mono (Nat.le_succ n0))
              clear hk hd hj
              refine pay_plain rfl ?_
              exact on_value (.bool xb) (by generalize a.eval = ρ at *; simp [go_sem, p1, a1]) rfl .refl hS
            · intro L a W hL hj hS hk hd
              have p1 : a.eval (.tmp 58) = .bool xb := hd 17 58 (by kernel_rfl)
              clear hk hd hj
              refine pay_plain rfl ?_
              exact on_value (.bool xb) (by generalize a.eval = ρ at *; simp [go_sem, p1]) rfl .refl hS
            · intro L a W hL hj hS hk hd
              have p : a.eval (.tmp 2) = .slice (some ⟨mb, mo, none⟩) ns.length mc := hk 2 (un_none (by kernel_rfl))
              cases xb with
              | true =>
                have hg : a.eval (.tmp 59) = .bool true := hd 18 59 (by kernel_rfl)
                exact pay_skip (b := false) rfl rfl hg (by decide) ⟨fun h => (by cases h), .refl, hS⟩
              | false =>
                have hg : a.eval (.tmp 59) = .bool false := hd 18 59 (by kernel_rfl)
                clear hk hd hj
                refine pay_guard (j := 18) (b := false) (d := 59) rfl rfl hg ?_
                exact on_value (.slice (some ⟨mb, mo, none⟩) ns.length mc) (by generalize a.eval = ρ at *; simp [go_sem, p]) (fun _ => rfl) .refl hS
            · intro L a W hL hj hS hk hd
              have p : a.eval (.tmp 8) = .int .i64 (k : Int) := hk 8 (un_none (by kernel_rfl))
              cases xb with
              | true =>
                have hg : a.eval (.tmp 59) = .bool true := hd 18 59 (by kernel_rfl)
                exact pay_skip (b := false) rfl rfl hg (by decide) ⟨fun h => (by cases h), .refl, hS⟩
              | false =>
                have hg : a.eval (.tmp 59) = .bool false := hd 18 59 (by kernel_rfl)
                clear hk hd hj
                refine pay_guard (j := 18) (b := false) (d := 59) rfl rfl hg ?_
                exact on_value (.int .i64 (k : Int)) (by generalize a.eval = ρ at *; simp [go_sem, p]) (fun _ => rfl) .refl hS
            · intro L a W hL hj hS hk hd
              cases xb with
              | true =>
                have hg : a.eval (.tmp 59) = .bool true := hd 18 59 (by kernel_rfl)
                exact pay_skip (b := false) rfl rfl hg (by decide) ⟨fun h => (by cases h), .refl, hS⟩
              | false =>
                have hg : a.eval (.tmp 59) = .bool false := hd 18 59 (by kernel_rfl)
                have p1 : a.eval (.tmp 60) = .slice (some ⟨mb, mo, none⟩) ns.length mc := hd 19 60 (by kernel_rfl) rfl
                have p2 : a.eval (.tmp 61) = .int .i64 (k : Int) := hd 20 61 (by kernel_rfl) rfl
                clear hk hd hj
                refine pay_guard (j := 18) (b := false) (d := 59) rfl rfl hg ?_
                exact on_value (.pointer (some ⟨mb, mo + k * 3, none⟩)) (by generalize a.eval = ρ at *; simp [go_sem, p1, p2, k1]) (fun _ => rfl) .refl hS
            · intro L a W hL hj hS hk hd
              cases xb with
              | true =>
                have hg : a.eval (.tmp 59) = .bool true := hd 18 59 (by kernel_rfl)
                exact pay_skip (b := false) rfl rfl hg (by decide) ⟨fun h => (by cases h), .refl, hS⟩
              | false =>
                have hg : a.eval (.tmp 59) = .bool false := hd 18 59 (by kernel_rfl)
                have p1 : a.eval (.tmp 62) = .pointer (some ⟨mb, mo + k * 3, none⟩) := hd 21 62 (by kernel_rfl) rfl
                clear hk hd hj
                refine pay_guard (j := 18) (b := false) (d := 59) rfl rfl hg ?_
                exact on_value (.pointer (some ⟨mb, mo + k * 3 + 1, none⟩)) (by generalize a.eval = ρ at *; simp [go_sem, p1]) (fun _ => rfl) .refl hS
            · intro L a W hL hj hS hk hd
              obtain ⟨a0, a1, a2, b0, b1, b2, -⟩ := rd4K hlb0 hmb0 HS0.out (hS.1.mono (Nat.le_succ n0))
              cases xb with
              | true =>
                have hg : a.eval (.tmp 59) = .bool true := hd 18 59 (by kernel_rfl)
                exact pay_skip (b := false) rfl rfl hg (by decide) ⟨fun h => (by cases h), .refl, hS⟩
              | false =>
                have hg : a.eval (.tmp 59) = .bool false := hd 18 59 (by kernel_rfl)
                have p1 : a.eval (.tmp 63) = .pointer (some ⟨mb, mo + k * 3 + 1, none⟩) := hd 22 63 (by kernel_rfl) rfl
                clear hk hd hj
                refine pay_guard (j := 18) (b := false) (d := 59) rfl rfl hg ?_
                exact on_value (.bool yb) (by generalize a.eval = ρ at *; simp [go_sem, p1, b1]) (fun _ => rfl) .refl hS
            · intro L a W hL hj hS hk hd
              have hC : a.eval (.const (.bool true)) = .bool true := rfl
              cases xb with
              | true =>
                have p1 : a.eval (.tmp 59) = .bool true := hd 18 59 (by kernel_rfl)
                clear hk hd hj
                refine pay_plain rfl ?_
                exact on_value (.bool true) (by generalize a.eval = ρ at *; simp [go_sem, p1, hC]) rfl .refl hS
              | false =>
                have p1 : a.eval (.tmp 59) = .bool false := hd 18 59 (by kernel_rfl)
                have p2 : a.eval (.tmp 64) = .bool yb := hd 23 64 (by kernel_rfl) rfl
                clear hk hd hj
                refine pay_plain rfl ?_
                exact on_value (.bool yb) (by generalize a.eval = ρ at *; simp [go_sem, p1, p2]) (show Value.bool _ = Value.bool _ from rfl) .refl hS
            · intro L a W hL hj hS hk hd
              have p : a.eval (.tmp 1) = .slice (some ⟨lb, lo, none⟩) ns.length lc := hk 1 (un_none (by kernel_rfl))
              clear hk hd hj
              refine pay_plain rfl ?_
              exact on_value (.slice (some ⟨lb, lo, none⟩) ns.length lc) (by generalize a.eval = ρ at *; simp [go_sem, p]) rfl .refl hS
            · intro L a W hL hj hS hk hd
              have p : a.eval (.tmp 8) = .int .i64 (k : Int) := hk 8 (un_none (by kernel_rfl))
              clear hk hd hj
              refine pay_plain rfl ?_
              exact on_value (.int .i64 (k : Int)) (by generalize a.eval = ρ at *; simp [go_sem, p]) rfl .refl hS
            · intro L a W hL hj hS hk hd
              have p1 : a.eval (.tmp 66) = .slice (some ⟨lb, lo, none⟩) ns.length lc := hd 25 66 (by kernel_rfl)
              have p2 : a.eval (.tmp 67) = .int .i64 (k : Int) := hd 26 67 (by kernel_rfl)
              clear hk hd hj
              refine pay_plain rfl ?_
              exact on_value (.pointer (some ⟨lb, lo + k * 3, none⟩)) (by generalize a.eval = ρ at *; simp [go_sem, p1, p2, k1]) rfl .refl hS
            · intro L a W hL hj hS hk hd
              have p1 : a.eval (.tmp 68) = .pointer (some ⟨lb, lo + k * 3, none⟩) := hd 27 68 (by kernel_rfl)
              clear hk hd hj
              refine pay_plain rfl ?_
              exact on_value (.pointer (some ⟨lb, lo + k * 3 + 2, none⟩)) (by generalize a.eval = ρ at *; simp [go_sem, p1]) rfl .refl hS
            · intro L a W hL hj hS hk hd
              have p1 : a.eval (.tmp 69) = .pointer (some ⟨lb, lo + k * 3 + 2, none⟩) := hd 28 69 (by kernel_rfl)
              obtain ⟨a0, a1, a2, b0, b1, b2, -⟩ := rd4K hlb0 hmb0 HS0.out (hS.1.mono (Nat.le_succ n0))
              clear hk hd hj
              refine pay_plain rfl ?_
              exact on_value (.bool xc) (by generalize a.eval = ρ at *; simp [go_sem, p1, a2]) rfl .refl hS
            · intro L a W hL hj hS hk hd
              have p1 : a.eval (.tmp 70) = .bool xc := hd 29 70 (by kernel_rfl)
              clear hk hd hj
              refine pay_plain rfl ?_
              exact on_value (.bool xc) (by generalize a.eval = ρ at *; simp [go_sem, p1]) rfl .refl hS
            · intro L a W hL hj hS hk hd
              have p : a.eval (.tmp 2) = .slice (some ⟨mb, mo, none⟩) ns.length mc := hk 2 (un_none (by kernel_rfl))
              cases xc with
              | true =>
                have hg : a.eval (.tmp 71) = .bool true := hd 30 71 (by kernel_rfl)
                exact pay_skip (b := false) rfl rfl hg (by decide) ⟨fun h => (by cases h), .refl, hS⟩
              | false =>
                have hg : a.eval (.tmp 71) = .bool false := hd 30 71 (by kernel_rfl)
                clear hk hd hj
                refine pay_guard (j := 30) (b := false) (d := 71) rfl rfl hg ?_
                exact on_value (.slice (some ⟨mb, mo, none⟩) ns.length mc) (by generalize a.eval = ρ at *; simp [go_sem, p]) (fun _ => rfl) .refl hS
            · intro L a W hL hj hS hk hd
              have p : a.eval (.tmp 8) = .int .i64 (k : Int) := hk 8 (un_none (by kernel_rfl))
              cases xc with
              | true =>
                have hg : a.eval (.tmp 71) = .bool true := hd 30 71 (by kernel_rfl)
                exact pay_skip (b := false) rfl rfl hg (by decide) ⟨fun h => (by cases h), .refl, hS⟩
              | false =>
                have hg : a.eval (.tmp 71) = .bool false := hd 30 71 (by kernel_rfl)
                clear hk hd hj
                refine pay_guard (j := 30) (b := false) (d := 71) rfl rfl hg ?_
                exact on_value (.int .i64 (k : Int)) (by generalize a.eval = ρ at *; simp [go_sem, p]) (fun _ => rfl) .refl hS
            · intro L a W hL hj hS hk hd
              cases xc with
              | true =>
                have hg : a.eval (.tmp 71) = .bool true := hd 30 71 (by kernel_rfl)
                exact pay_skip (b := false) rfl rfl hg (by decide) ⟨fun h => (by cases h), .refl, hS⟩
              | false =>
                have hg : a.eval (.tmp 71) = .bool false := hd 30 71 (by kernel_rfl)
                have p1 : a.eval (.tmp 72) = .slice (some ⟨mb, mo, none⟩) ns.length mc := hd 31 72 (by kernel_rfl) rfl
                have p2 : a.eval (.tmp 73) = .int .i64 (k : Int) := hd 32 73 (by kernel_rfl) rfl
                clear hk hd hj
                refine pay_guard (j := 30) (b := false) (d := 71) rfl rfl hg ?_
                exact on_value (.pointer (some ⟨mb, mo + k * 3, none⟩)) (by generalize a.eval = ρ at *; simp [go_sem, p1, p2, k1]) (fun _ => rfl) .refl hS
            · intro L a W hL hj hS hk hd
              cases xc with
              | true =>
                have hg : a.eval (.tmp 71) = .bool true := hd 30 71 (by kernel_rfl)
                exact pay_skip (b := false) rfl rfl hg (by decide) ⟨fun h => (by cases h), .refl, hS⟩
              | false =>
                have hg : a.eval (.tmp 71) = .bool false := hd 30 71 (by kernel_rfl)
                have p1 : a.eval (.tmp 74) = .pointer (some ⟨mb, mo + k * 3, none⟩) := hd 33 74 (by kernel_rfl) rfl
                clear hk hd hj
                refine pay_guard (j := 30) (b := false) (d := 71) rfl rfl hg ?_
                exact on_value (.pointer (some ⟨mb, mo + k * 3 + 2, none⟩)) (by generalize a.eval = ρ at *; simp [go_sem, p1]) (fun _ => rfl) .refl hS
            · intro L a W hL hj hS hk hd
              obtain ⟨a0, a1, a2, b0, b1, b2, -⟩ := rd4K hlb0 hmb0 HS0.out (hS.1.mono (Nat.le_succ n0))
              cases xc with
              | true =>
                have hg : a.eval (.tmp 71) = .bool true := hd 30 71 (by kernel_rfl)
                exact pay_skip (b := false) rfl rfl hg (by decide) ⟨fun h => (by cases h), .refl, hS⟩
              | false =>
                have hg : a.eval (.tmp 71) = .bool false := hd 30 71 (by kernel_rfl)
                have p1 : a.eval (.tmp 75) = .pointer (some ⟨mb, mo + k * 3 + 2, none⟩) := hd 34 75 (by kernel_rfl) rfl
                clear hk hd hj
                refine pay_guard (j := 30) (b := false) (d := 71) rfl rfl hg ?_
                exact on_value (.bool yc) (by generalize a.eval = ρ at *; simp [go_sem, p1, b2]) (fun _ => rfl) .refl hS
            · intro L a W hL hj hS hk hd
              have hC : a.eval (.const (.bool true)) = .bool true := rfl
              cases xc with
              | true =>
                have p1 : a.eval (.tmp 71) = .bool true := hd 30 71 (by kernel_rfl)
                clear hk hd hj
                refine pay_plain rfl ?_
                exact on_value (.bool true) (by generalize a.eval = ρ at *; simp [go_sem, p1, hC]) rfl .refl hS
              | false =>
                have p1 : a.eval (.tmp 71) = .bool false := hd 30 71 (by kernel_rfl)
                have p2 : a.eval (.tmp 76) = .bool yc := hd 35 76 (by kernel_rfl) rfl
                clear hk hd hj
                refine pay_plain rfl ?_
                exact on_value (.bool yc) (by generalize a.eval = ρ at *; simp [go_sem, p1, p2]) (show Value.bool _ = Value.bool _ from rfl) .refl hS
            · intro L a W hL hj hS hk hd
              have p1 : a.eval (.tmp 53) = .bool (xa || ya) := hd 12 53 (by kernel_rfl)
              have p2 : a.eval (.tmp 65) = .bool (xb || yb) := hd 24 65 (by kernel_rfl)
              have p3 : a.eval (.tmp 77) = .bool (xc || yc) := hd 36 77 (by kernel_rfl)
              obtain ⟨za, hza⟩ : ∃ z, (xa || ya) = z := ⟨_, rfl⟩
              obtain ⟨zb, hzb⟩ : ∃ z, (xb || yb) = z := ⟨_, rfl⟩
              obtain ⟨zc, hzc⟩ : ∃ z, (xc || yc) = z := ⟨_, rfl⟩
              rw [hza] at p1
              rw [hzb] at p2
              rw [hzc] at p3
              have hT : Value.agg #[.bool za, .bool zb, .bool zc] = .agg #[.bool (xa || ya), .bool (xb || yb), .bool (xc || yc)] := by rw [hza, hzb, hzc]
              clear hza hzb hzc
              clear hk hd hj
              refine pay_plain rfl ?_
              exact on_value (.agg #[.bool za, .bool zb, .bool zc]) (by generalize a.eval = ρ at *; simp [go_sem, p1, p2, p3]) hT .refl hS
            · intro L a W hL hj hS hk hd
              have p1 : a.eval (.tmp 78) = .agg #[.bool (xa || ya), .bool (xb || yb), .bool (xc || yc)] := hd 37 78 (by kernel_rfl)
              clear hk hd hj
              refine pay_plain rfl ?_
              have hb := (one_new W (.cells #[.bool (xa || ya), .bool (xb || yb), .bool (xc || yc)] 35)).mono (Nat.le_trans hsz hS.1.size)
              exact on_value' (.slice (some ⟨W.heap.size, 0, none⟩) 1 1) (w' := W.alloc (.cells #[.bool (xa || ya), .bool (xb || yb), .bool (xc || yc)] 35)) (by generalize a.eval = ρ at *; simp [go_sem, p1]) ⟨W.heap.size, rfl, ⟨hell, .inr ⟨W.heap.size, 1, _, rfl, Nat.le_trans hsz hS.1.size, heap_alloc_new W _, Nat.le_refl _, by unfold maxLen; omega, rfl, by rw [hel]; rfl⟩⟩⟩ (.of_grown (World.grownBy_alloc W _ _)) ⟨hS.1.trans hb, hS.2.trans (.of_grown (World.grownBy_alloc W _ _))⟩
            · intro L a W hL hj hS hk hd
              obtain ⟨p1, h4⟩ := hd 0 41 (by kernel_rfl)
              obtain ⟨E, p2, hE⟩ := hd 38 79 (by kernel_rfl)
              rw [p1] at h4
              rw [p2] at hE
              clear hk hd hj
              refine pay_plain rfl ?_
              obtain ⟨a', c', w', hr, h1, h2, h3⟩ := app2F (P := Try.prog) W (n0 + 1) 28 28 35 ii _ 3 3 Try.underlying28 hii hz0 hz1 hz2 rfl ua k uc cs h4 E 1 elem hE (by rw [hel]; simp [Value.oneCell']) (by unfold maxLen; omega) (by omega) (Nat.le_trans hsz hS.1.size)
              exact on_append (.tmp 41) (.tmp 79) 28 rfl p1 p2 hr ⟨a', c', rfl, h1⟩ h2 ⟨hS.1.trans h3, hS.2.trans h2⟩
            · intro L a W hL hj hS hk hd
              obtain ⟨a', c', p1, h1⟩ := hd 39 80 (by kernel_rfl)
              rw [p1] at h1
              clear hk hd hj
              refine pay_plain rfl ?_
              exact on_value (.slice a' (k + 1) c') (by generalize a.eval = ρ at *; simp [go_sem, p1]) ⟨a', c', rfl, h1⟩ .refl hS
          case done =>
            intro vals w3 hv hS
            obtain ⟨-, -, hS⟩ := hS
            obtain ⟨a5, c5, e5, h5⟩ := hv 40 (by simp)
            rw [e5] at h5
            have HS5 := Lib.hid hS.1
            have H5 := Lib.hid h5
            simp only [fill, if_true, Act.put, List.setIfInBounds_toArray, List.set_cons_zero, List.set_cons_succ, Nat.zero_add, Nat.reduceAdd]
            rw [e5]
            clear hv e5 h5 hS hel hell hln
            go_wp2
            go_roundw
            case rel => exact ⟨k + 1, by omega, by go_num, by rw [HT.out, HCS.out, HN0.out]; have := H5.out; rw [HEL.out] at this; exact this, by have := HG.out; unfold Bl at this ⊢; rw [HS5.out.block _ (by have := HN0.out; omega)]; exact this, HB.out.trans (HS5.out.mono (by have := HN0.out; omega))⟩
            case measure => simp [intOf]; omega
        · obtain rfl : k = ns.length := by omega
          have k1 : ¬ (ns.length : Int) < (ns.length : Int) := by omega
          have hfb : FactsAt wr (.slice ua ns.length uc) (orL l m) := FactsAt.of_own' (by have := HO.out; rw [← HOR.out, List.take_length, HOR.out] at this; exact this) HOR.out (by rw [HOR.out]; unfold maxLen; omega)
          have g0 : wr.cell? ⟨w.heap.size, 0, none⟩ = some (.slice ra rs.length rc) := HG.out.cell (o := 0) rfl
          have g1 : wr.cell? ⟨w.heap.size, 1, none⟩ = some (.slice na ns.length nc) := HG.out.cell (o := 1) rfl
          obtain ⟨n0, hn0⟩ : ∃ n0, w.heap.size = n0 := ⟨_, rfl⟩
          have hnw : n0 ≤ w.heap.size := Nat.le_of_eq hn0.symm
          have HN0 := Lib.hid hn0
          obtain ⟨G, hG⟩ : ∃ G, G = w.heap.size := ⟨_, rfl⟩
          rw [← hG] at g0 g1
          have hS : (fun V : World => V.cell? ⟨G, 0, none⟩ = some (.slice ra rs.length rc) ∧ V.cell? ⟨G, 1, none⟩ = some (.slice na ns.length nc) ∧ FactsAt V (.slice ua ns.length uc) (orL l m) ∧ Below n0 w V) wr.drew := ⟨g0, g1, hfb.kept (Below.drew (Below.refl wr.heap.size wr)) (Nat.le_refl _), by rw [← hn0]; exact HB.out.drew⟩
          clear hn0 HO HB HG g0 g1 hfb
          dsimp only at hS
          go_upto_region 8 with (fail)
          rw [← hG]
          clear hG
          go_region_held3 (fun V : World => V.cell? ⟨G, 0, none⟩ = some (.slice ra rs.length rc) ∧ V.cell? ⟨G, 1, none⟩ = some (.slice na ns.length nc) ∧ FactsAt V (.slice ua ns.length uc) (orL l m) ∧ Below n0 w V) (first | exact hS)
            (first
              | (go_at_call 16; with_reducible refine (HLF1.out _ _ (HLl.out _ (by rw [HN0.out]; exact hS.2.2.2))).mono ?_; rintro ev w4 ⟨a4, c4, rfl, hf, hb⟩; have HF4 := Lib.hid hf; replace hS := law4K hnw hb hS; clear hb hf)
              | (go_at_call 15; with_reducible refine (HP1.out _ _ (by rw [HN0.out]; exact hS.2.2.2) HF4.out).mono ?_; rintro ev w5 ⟨a5, c5, rfl, hf, hb⟩; have HF5 := Lib.hid hf; replace hS := law4K hnw hb hS; clear hb hf)
              | (go_at_call 12; with_reducible refine (HBk1.out _ _ HF5.out).mono ?_; rintro ev w6 ⟨a6, c6, rfl, hf, hb⟩; have HF6 := Lib.hid hf; replace hS := law4K hnw hb hS; clear hb hf))
          replace hS : (fun V : World => V.cell? ⟨G, 0, none⟩ = some (.slice ra rs.length rc) ∧ V.cell? ⟨G, 1, none⟩ = some (.slice na ns.length nc) ∧ FactsAt V (.slice ua ns.length uc) (orL l m) ∧ FactsAt V (.slice a6 (stepF rs ns l).length c6) (stepF rs ns l) ∧ Below n0 w V) w6.drew := ⟨hS.1, hS.2.1, hS.2.2.1.kept (Below.drew (Below.refl w6.heap.size w6)) (Nat.le_refl _), HF6.out.kept (Below.drew (Below.refl w6.heap.size w6)) (Nat.le_refl _), hS.2.2.2.drew⟩
          clear HF4 HF5 HF6
          dsimp only at hS
          go_upto_region 9 with (fail)
          go_region_held3 (fun V : World => V.cell? ⟨G, 0, none⟩ = some (.slice ra rs.length rc) ∧ V.cell? ⟨G, 1, none⟩ = some (.slice na ns.length nc) ∧ FactsAt V (.slice ua ns.length uc) (orL l m) ∧ FactsAt V (.slice a6 (stepF rs ns l).length c6) (stepF rs ns l) ∧ Below n0 w V) (first | exact hS)
            (first
              | (go_at_call 16; with_reducible refine (HLF2.out _ _ hS.2.2.1).mono ?_; rintro ev w7 ⟨a7, c7, rfl, hf, hb⟩; have HF7 := Lib.hid hf; replace hS := law4K9 hnw hb hS; clear hb hf)
              | (go_at_call 15; with_reducible refine (HP2.out _ _ (by rw [HN0.out]; exact hS.2.2.2.2) HF7.out).mono ?_; rintro ev w8 ⟨a8, c8, rfl, hf, hb⟩; have HF8 := Lib.hid hf; replace hS := law4K9 hnw hb hS; clear hb hf)
              | (go_at_call 12; with_reducible refine (HBk2.out _ _ HF8.out).mono ?_; rintro ev w9 ⟨a9, c9, rfl, hf, hb⟩; have HF9 := Lib.hid hf; replace hS := law4K9 hnw hb hS; clear hb hf))
          obtain ⟨g0, g1, hFu, hFa, hB⟩ := hS
          have HFU := Lib.hid hFu
          have HFA := Lib.hid hFa
          have HBB := Lib.hid hB
          clear hFu hFa hB
          by_cases hle : LeL (stepF rs ns (orL l m)) (orL l m)
          · have HWb := Lib.hid (HW2.out true ⟨fun _ => hle, fun _ => rfl⟩)
            have HWc := Lib.hid (HW3.out hle)
            clear hle
            go_wp2_with (first
              | (go_at_call 18; (with_reducible refine (HW1.out _ _ _ HFA.out HF9.out).mono ?_); rintro e w10 ⟨rfl, hw⟩; obtain rfl := hw.symm; clear hw HW1)
              | (go_at_call 18; (with_reducible refine (HWb.out _ _ _ HF9.out HFU.out).mono ?_); rintro e w11 ⟨rfl, hw⟩; obtain rfl := hw.symm; clear hw HWb)
              | (go_at_call 13; (with_reducible refine (HOf.out _ (by rw [HN0.out]; exact HBB.out)).mono ?_); rintro e w12 ⟨a12, c12, rfl, hf, hb⟩; have HF12 := Lib.hid hf; have HFU12 := Lib.hid (HFU.out.below hb); have HB12 := Lib.hid (HBB.out.trans (hb.mono (Nat.le_trans hnw HBB.out.size))); clear hb hf)
              | (go_at_call 12; (with_reducible refine (HBk3.out _ _ HF12.out).mono ?_); rintro e w13 ⟨a13, c13, rfl, hf, hb⟩; have HF13 := Lib.hid hf; have HFU13 := Lib.hid (HFU12.out.below hb); have HB13 := Lib.hid (HB12.out.trans (hb.mono (Nat.le_trans hnw HB12.out.size))); clear hb hf)
              | (go_at_call 18; (with_reducible refine (HWc.out _ _ _ HF13.out HFU13.out).mono ?_); rintro e w14 ⟨rfl, hw⟩; obtain rfl := hw.symm; clear hw))
            go_ret
            exact ⟨rfl, by rw [HN0.out]; exact HB13.out⟩
          · have HWb := Lib.hid (HW2.out false ⟨fun h => (by cases h), fun h => absurd h hle⟩)
            clear hle
            go_wp2_with (first
              | (go_at_call 18; (with_reducible refine (HW1.out _ _ _ HFA.out HF9.out).mono ?_); rintro e w10 ⟨rfl, hw⟩; obtain rfl := hw.symm; clear hw HW1)
              | (go_at_call 18; (with_reducible refine (HWb.out _ _ _ HF9.out HFU.out).mono ?_); rintro e w11 ⟨rfl, hw⟩; obtain rfl := hw.symm; clear hw HWb))
            go_ret
            exact ⟨rfl, by rw [HN0.out]; exact HBB.out⟩
    · obtain ⟨-, ra, rc, rfl, -⟩ := hR
      have hq : (((l.length : Int) != (ns.length : Int)) = true) ∨ (((l.length : Int) != (ns.length : Int)) = false ∧ ((m.length : Int) != (ns.length : Int)) = true) := by
        by_cases h1 : l.length = ns.length
        · exact .inr ⟨by rw [h1]; simp, ibne_yes (by omega)⟩
        · exact .inl (ibne_yes (by omega))
      clear hsm hN hL hM hO hlen
      rcases hq with q1 | ⟨q1, q2⟩ <;>
      · go_enter Try.func6, Try.ntmps6
        go_upto_region 2 with (first
          | (go_at_call 8; (with_reducible refine (awake11_any _).mono ?_); rintro e w2 ⟨rfl, hb⟩; have HW := Lib.hid (bl_on (one_new w _) hb); have HG := Lib.hid ((Bl.new w 25 #[.slice ra rs.length rc, .slice na ns.length nc]).below hb); have b0 : w2.cell? ⟨w.heap.size, 0, none⟩ = some (.slice ra rs.length rc) := HG.out.cell (o := 0) rfl; have b1 : w2.cell? ⟨w.heap.size, 1, none⟩ = some (.slice na ns.length nc) := HG.out.cell (o := 1) rfl; clear hb)
          | (go_at_call 9; (with_reducible refine (HS.out _ HW.out).mono ?_); rintro e w3 ⟨rfl, hb⟩; replace HW := Lib.hid (bl_on HW.out hb); replace HG := Lib.hid (HG.out.below hb); have d0 : w3.cell? ⟨w.heap.size, 0, none⟩ = some (.slice ra rs.length rc) := HG.out.cell (o := 0) rfl; have d1 : w3.cell? ⟨w.heap.size, 1, none⟩ = some (.slice na ns.length nc) := HG.out.cell (o := 1) rfl; clear hb b0 b1))
        go_wp2_with (go_at_call 8; (with_reducible refine (awake11_any _).mono ?_); rintro e w4 ⟨rfl, hb⟩; replace HW := Lib.hid (bl_on HW.out hb); clear hb)
        go_ret
        exact ⟨rfl, HW.out⟩
end Go.Proofs.Ytocklhehfdilmaa
