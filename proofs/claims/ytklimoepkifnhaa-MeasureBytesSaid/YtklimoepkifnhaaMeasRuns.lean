/- measure: Bytes and its reference; begin; Runs. -/
import Derived.Test.YtklimoepkifnhaaMeasReach
import Derived.Test.YtklimoepkifnhaaSetRef3
import Derived.Test.YtklimoepkifnhaaPairs
import Derived.Deep.WholeRow
namespace Go.Proofs.Ytklimoepkifnhaa
section
open Go.RowKit
def setV (f : Nat → Bool) : Value := .agg #[.int .u64 (setW f 0), .int .u64 (setW f 1), .int .u64 (setW f 2), .int .u64 (setW f 3)]
theorem setV_congr {f g : Nat → Bool} (h : ∀ i, i < 256 → f i = g i) : setV f = setV g := by
  unfold setV
  rw [setW_congr' (k := 0) (by decide) h, setW_congr' (k := 1) (by decide) h, setW_congr' (k := 2) (by decide) h, setW_congr' (k := 3) (by decide) h]
theorem Bl.set4 {w : World} {S : Nat} {t : TypeId} {a b c d : Value} (h : Bl w S t #[a, b, c, d]) (x y z u : Value) : Bl ((((w.setCell ⟨S, 0, none⟩ x).setCell ⟨S, 1, none⟩ y).setCell ⟨S, 2, none⟩ z).setCell ⟨S, 3, none⟩ u) S t #[x, y, z, u] :=
  (((h.set' (o := 0) x).set' (o := 1) y).set' (o := 2) z).set' (o := 3) u
theorem byteP_take {ns : List PN} {k : Nat} {n : PN} (hn : ns[k]? = some n) (c : Nat) : byteP (ns.take (k + 1)) c = (byteP (ns.take k) c || (decide (n.op = 1) && bitF n c)) := by
  rw [take_snoc' ns k n hn, byteP_snoc]
set_option maxHeartbeats 8000000 in
set_option maxRecDepth 100000 in
theorem mbytes_any (ra : Option Addr) (rn rc : Nat) (nv : Value) (ns : List PN) (w : World) (hN : NodesAt w nv ns) (hs : ns.length ≤ 1000000) (hw : ∀ n, n ∈ ns → WordsOk n) :
    Calls Try.prog 15 #[.agg #[.slice ra rn rc, nv]] w fun e w' => e = .returned (setV (byteP ns)) ∧ Below w.heap.size w w' := by
  obtain ⟨hl, a, ca, rfl, ha⟩ := id hN
  obtain ⟨W, hW⟩ : ∃ W, ((w.alloc (.cells #[.slice ra rn rc, .slice a ns.length ca] 25)).alloc (.cells #[.int .u64 0, .int .u64 0, .int .u64 0, .int .u64 0] 35)).alloc (.cells #[.int .u64 0, .int .u64 0, .int .u64 0, .int .u64 0] 35) = W := ⟨_, rfl⟩
  have hb0 : Below w.heap.size w W := by rw [← hW]; exact (two_new w _ _).alloc (by simp; omega) _
  have hR0 : Bl W (w.heap.size + 1) 35 #[.int .u64 0, .int .u64 0, .int .u64 0, .int .u64 0] := by rw [← hW]; repeat (first | (refine Bl.new' ?_; simp; done) | refine Bl.past ?_)
  have hS0 : Bl W (w.heap.size + 2) 35 #[.int .u64 (setW (byteP []) 0), .int .u64 (setW (byteP []) 1), .int .u64 (setW (byteP []) 2), .int .u64 (setW (byteP []) 3)] := by
    rw [show byteP [] = fun _ => false from rfl, setW_none, setW_none, setW_none, setW_none, ← hW]
    repeat (first | (refine Bl.new' ?_; simp; done) | refine Bl.past ?_)
  have gB : Bl W w.heap.size 25 #[.slice ra rn rc, .slice a ns.length ca] := by rw [← hW]; repeat (first | (refine Bl.new' ?_; simp; done) | refine Bl.past ?_)
  have g1 : W.cell? ⟨w.heap.size, 1, none⟩ = some (.slice a ns.length ca) := gB.cell (o := 1) rfl
  have HB0 := Lib.hid hb0
  have HR0 := Lib.hid hR0
  have HS0 := Lib.hid hS0
  clear hb0 hR0 hS0 gB
  go_enter Try.func15, Try.ntmps15
  go_wp2
  clear hW g1
  go_loopw [9] (fun c wr => ∃ k : Nat, k ≤ ns.length ∧ c = .int .i64 k ∧ Below w.heap.size w wr ∧ Bl wr (w.heap.size + 1) 35 #[.int .u64 0, .int .u64 0, .int .u64 0, .int .u64 0] ∧ Bl wr (w.heap.size + 2) 35 #[.int .u64 (setW (byteP (ns.take k)) 0), .int .u64 (setW (byteP (ns.take k)) 1), .int .u64 (setW (byteP (ns.take k)) 2), .int .u64 (setW (byteP (ns.take k)) 3)]) (fun c _ => ns.length - (intOf c).toNat)
  case atStart => exact ⟨0, Nat.zero_le _, rfl, HB0.out, HR0.out, HS0.out⟩
  case round =>
    obtain ⟨k, hk, rfl, hb, hR, hS⟩ := hrel
    clear HB0 HR0 HS0
    have HB := Lib.hid hb
    have HR := Lib.hid hR
    have HS := Lib.hid hS
    by_cases hlt : k < ns.length
    · have k1 : (k : Int) < (ns.length : Int) := by omega
      obtain ⟨n, hn⟩ : ∃ n, ns[k]? = some n := ⟨_, List.getElem?_eq_getElem hlt⟩
      rcases ha with h0 | ⟨nb, no, rfl, hca⟩
      · rw [h0] at hlt; exact absurd hlt (Nat.not_lt_zero _)
      obtain ⟨kv, c0, c1, c2, c3, c4, c5, c6, ci, -⟩ := (hca k n hn).kept hb (Nat.le_refl _)
      obtain ⟨ka, kc, rfl, -⟩ := ci
      obtain ⟨w0, w1, w2, w3⟩ := bitF_word (hw n (List.mem_of_getElem? hn))
      rw [w0] at c3
      rw [w1] at c4
      rw [w2] at c5
      rw [w3] at c6
      have HT := Lib.hid (byteP_take hn)
      have s0 : wr.cell? ⟨w.heap.size + 2, 0, none⟩ = some (.int .u64 (setW (byteP (ns.take k)) 0)) := hS.cell (o := 0) rfl
      have s1 : wr.cell? ⟨w.heap.size + 2, 1, none⟩ = some (.int .u64 (setW (byteP (ns.take k)) 1)) := hS.cell (o := 1) rfl
      have s2 : wr.cell? ⟨w.heap.size + 2, 2, none⟩ = some (.int .u64 (setW (byteP (ns.take k)) 2)) := hS.cell (o := 2) rfl
      have s3 : wr.cell? ⟨w.heap.size + 2, 3, none⟩ = some (.int .u64 (setW (byteP (ns.take k)) 3)) := hS.cell (o := 3) rfl
      have hz2 : w.heap.size + 1 + 1 < wr.heap.size := hS.lt
      clear hb hR hS hca hn hw w0 w1 w2 w3 hN
      by_cases h1 : n.op = 1
      · have H1 := Lib.hid h1
        rw [h1] at c0
        have HU := Lib.hid (union_any (byteP (ns.take k)) (bitF n))
        clear h1
        go_wp2_with (go_at_call 30; (with_reducible refine (HU.out _).mono ?_); rintro e w5 ⟨rfl, hb5⟩; have HS5 := Lib.hid ((HS.out.below (one_new _ _)).below hb5); have HR5 := Lib.hid ((HR.out.below (one_new _ _)).below hb5); have HB5 := Lib.hid ((HB.out.trans ((one_new _ _).mono HB.out.size)).trans (hb5.mono (Nat.le_trans HB.out.size (one_new _ _).size))); have t0 := HS5.out.cell (o := 0) rfl; have t1 := HS5.out.cell (o := 1) rfl; have t2 := HS5.out.cell (o := 2) rfl; have t3 := HS5.out.cell (o := 3) rfl; have tf := HS5.out.free; clear hb5)
        have e : byteP (ns.take (k + 1)) = fun i => byteP (ns.take k) i || bitF n i := by funext c; rw [HT.out, decide_eq_true H1.out, Bool.true_and]
        refine ⟨⟨k + 1, by omega, by go_num, ?_, ?_, ?_⟩, by simp [intOf]; omega⟩
        · exact (((HB5.out.setCell (p := ⟨w.heap.size + 1 + 1, 0, none⟩) (by show _ ≤ w.heap.size + 1 + 1; omega) _).setCell (p := ⟨w.heap.size + 1 + 1, 1, none⟩) (by show _ ≤ w.heap.size + 1 + 1; omega) _).setCell (p := ⟨w.heap.size + 1 + 1, 2, none⟩) (by show _ ≤ w.heap.size + 1 + 1; omega) _).setCell (p := ⟨w.heap.size + 1 + 1, 3, none⟩) (by show _ ≤ w.heap.size + 1 + 1; omega) _
        · exact (((HR5.out.other (by omega) _).other (by omega) _).other (by omega) _).other (by omega) _
        · rw [e]; exact HS5.out.set4 _ _ _ _
      · have h1' : (n.op == 1) = false := by simpa using h1
        have HH := Lib.hid h1
        clear h1
        go_wp2
        go_roundw
        case rel =>
          refine ⟨k + 1, by omega, by go_num, HB.out.alloc HB.out.size _, HR.out.below (one_new _ _), ?_⟩
          have e : byteP (ns.take (k + 1)) = byteP (ns.take k) := by funext c; rw [HT.out, decide_eq_false HH.out]; simp
          rw [e]; exact HS.out.below (one_new _ _)
        case measure => simp [intOf]; omega
    · obtain rfl : k = ns.length := by omega
      have k1 : ¬ (ns.length : Int) < (ns.length : Int) := by omega
      rw [List.take_length] at HS hS
      have s0 : wr.cell? ⟨w.heap.size + 2, 0, none⟩ = some (.int .u64 (setW (byteP ns) 0)) := hS.cell (o := 0) rfl
      have s1 : wr.cell? ⟨w.heap.size + 2, 1, none⟩ = some (.int .u64 (setW (byteP ns) 1)) := hS.cell (o := 1) rfl
      have s2 : wr.cell? ⟨w.heap.size + 2, 2, none⟩ = some (.int .u64 (setW (byteP ns) 2)) := hS.cell (o := 2) rfl
      have s3 : wr.cell? ⟨w.heap.size + 2, 3, none⟩ = some (.int .u64 (setW (byteP ns) 3)) := hS.cell (o := 3) rfl
      have r0 := hR.cell (o := 0) rfl
      have r1 := hR.cell (o := 1) rfl
      have r2 := hR.cell (o := 2) rfl
      have r3 := hR.cell (o := 3) rfl
      have rf := hR.free
      clear hb hR hS ha hN hw
      go_wp2
      have hx := HR.out.set4 (.int .u64 (setW (byteP ns) 0)) (.int .u64 (setW (byteP ns) 1)) (.int .u64 (setW (byteP ns) 2)) (.int .u64 (setW (byteP ns) 3))
      have y0 : _ = some (Value.int .u64 (setW (byteP ns) 0)) := hx.cell (o := 0) rfl
      have y1 : _ = some (Value.int .u64 (setW (byteP ns) 1)) := hx.cell (o := 1) rfl
      have y2 : _ = some (Value.int .u64 (setW (byteP ns) 2)) := hx.cell (o := 2) rfl
      have y3 : _ = some (Value.int .u64 (setW (byteP ns) 3)) := hx.cell (o := 3) rfl
      refine bodyPost_ret (v := setV (byteP ns)) (by simp [results, Try.results15, go_sem, setV, y0, y1, y2, y3]) rfl ⟨rfl, ?_⟩
      exact (((HB.out.setCell (p := ⟨w.heap.size + 1, 0, none⟩) (by show _ ≤ w.heap.size + 1; omega) _).setCell (p := ⟨w.heap.size + 1, 1, none⟩) (by show _ ≤ w.heap.size + 1; omega) _).setCell (p := ⟨w.heap.size + 1, 2, none⟩) (by show _ ≤ w.heap.size + 1; omega) _).setCell (p := ⟨w.heap.size + 1, 3, none⟩) (by show _ ≤ w.heap.size + 1; omega) _
end
section
open Go.RowKit
theorem BolAt.set {m : Nat → Bool} {n B k : Nat} {w : World} (h : BolAt m n B w) (hk : k < n) (v : Bool) : BolAt (fun j => if j = k then v else m j) n B (w.setCell ⟨B, k, none⟩ (.bool v)) := by
  obtain ⟨cs, h1, h2⟩ := h
  refine ⟨_, h1.set' _, fun j hj => ?_⟩
  rw [Array.getElem?_setIfInBounds]
  by_cases e : k = j
  · subst e
    have := (Array.getElem?_eq_some_iff.1 (h2 k hk)).1
    rw [if_pos rfl, if_pos this]; simp
  · rw [if_neg e, h2 j hj]; simp [Ne.symm e]
theorem RK.set {G B n k : Nat} {rv nv : Value} {m m' : Nat → Bool} {w W : World} (h : RK G B n rv nv m w W) (hk : k < n) (v : Bool) (e : ∀ j, j < n → (if j = k then v else m j) = m' j) : RK G B n rv nv m' w (W.setCell ⟨B, k, none⟩ (.bool v)) := by
  obtain ⟨h1, h2, h3, h4⟩ := h
  obtain ⟨cs, hB, -⟩ := id h3
  exact ⟨h1.setCell (p := ⟨B, k, none⟩) h4 _, h2.other (h2.ne hB (by decide)) _, (h3.set hk v).congr e, h4⟩
theorem anyF_take {ns : List PN} {k : Nat} {n : PN} (hn : ns[k]? = some n) (c : Nat) : anyF (ns.take (k + 1)) c = (anyF (ns.take k) c || bitF n c) := by
  rw [take_snoc' ns k n hn, anyF_snoc]
set_option maxHeartbeats 8000000 in
set_option maxRecDepth 100000 in
theorem r7bytes_any (ra : Option Addr) (rn rc : Nat) (nv : Value) (ns : List PN) (w : World) (hN : NodesAt w nv ns) (hs : ns.length ≤ 1000000) (hw : ∀ n, n ∈ ns → WordsOk n) :
    Calls Try.prog 16 #[.agg #[.slice ra rn rc, nv]] w fun e w' => e = .returned (setV (anyF ns)) ∧ Below w.heap.size w w' := by
  obtain ⟨hl, a, ca, rfl, ha⟩ := id hN
  obtain ⟨W, hW⟩ : ∃ W, ((w.alloc (.cells #[.slice ra rn rc, .slice a ns.length ca] 25)).alloc (.cells #[.int .u64 0, .int .u64 0, .int .u64 0, .int .u64 0] 35)).alloc (.cells falses 4) = W := ⟨_, rfl⟩
  have hR0 : Bl W (w.heap.size + 1) 35 #[.int .u64 0, .int .u64 0, .int .u64 0, .int .u64 0] := by rw [← hW]; repeat (first | (refine Bl.new' ?_; simp; done) | refine Bl.past ?_)
  have hK0 : RK w.heap.size (w.heap.size + 2) 256 (.slice ra rn rc) (.slice a ns.length ca) (anyF []) w W := by
    refine ⟨by rw [← hW]; exact (two_new w _ _).alloc (by simp; omega) _, by rw [← hW]; repeat (first | (refine Bl.new' ?_; simp; done) | refine Bl.past ?_), ⟨falses, by rw [← hW]; exact Bl.new' (by simp), fun j hj => ?_⟩, by omega⟩
    unfold falses
    rw [Array.getElem?_replicate, if_pos hj]; rfl
  have g1 : W.cell? ⟨w.heap.size, 1, none⟩ = some (.slice a ns.length ca) := hK0.g.cell (o := 1) rfl
  have hmk := mk256
  have HR0 := Lib.hid hR0
  have HK0 := Lib.hid hK0
  clear hK0 hR0
  go_enter Try.func16, Try.ntmps16
  go_wp2
  clear hW g1 hmk
  go_loopw [4] (fun c wr => ∃ k : Nat, k ≤ ns.length ∧ c = .int .i64 k ∧ RK w.heap.size (w.heap.size + 2) 256 (.slice ra rn rc) (.slice a ns.length ca) (anyF (ns.take k)) w wr ∧ Bl wr (w.heap.size + 1) 35 #[.int .u64 0, .int .u64 0, .int .u64 0, .int .u64 0]) (fun c _ => ns.length - (intOf c).toNat)
  case atStart => exact ⟨0, Nat.zero_le _, rfl, HK0.out, HR0.out⟩
  case round =>
    obtain ⟨k, hk, rfl, hrk, hR⟩ := hrel
    clear HK0 HR0
    have g0 : wr.cell? ⟨w.heap.size, 0, none⟩ = some (.slice ra rn rc) := hrk.g.cell (o := 0) rfl
    have g1 : wr.cell? ⟨w.heap.size, 1, none⟩ = some (.slice a ns.length ca) := hrk.g.cell (o := 1) rfl
    have HK := Lib.hid hrk
    have HR := Lib.hid hR
    by_cases hlt : k < ns.length
    · have k1 : (k : Int) < (ns.length : Int) := by omega
      obtain ⟨n, hn⟩ : ∃ n, ns[k]? = some n := ⟨_, List.getElem?_eq_getElem hlt⟩
      rcases ha with h0 | ⟨nb, no, rfl, hca⟩
      · rw [h0] at hlt; exact absurd hlt (Nat.not_lt_zero _)
      have HC := Lib.hid (hca k n hn)
      obtain ⟨w0, w1, w2, w3⟩ := bitF_word (hw n (List.mem_of_getElem? hn))
      have HT := Lib.hid (anyF_take hn)
      have HW0 := Lib.hid w0
      have HW1 := Lib.hid w1
      have HW2 := Lib.hid w2
      have HW3 := Lib.hid w3
      have HU := Lib.hid (fun (c : Nat) (hc : c < 256) (W : World) => rhas_any (bitF n) (c : Int) W (by omega) (by omega))
      clear hrk hR hca hn hw w0 w1 w2 w3 hN
      generalize anyF (ns.take k) = m at *
      go_wp2
      go_loopw [5] (fun c wr => ∃ t : Nat, t ≤ 256 ∧ c = .int .i64 t ∧ RK w.heap.size (w.heap.size + 2) 256 (.slice ra rn rc) (.slice (some ⟨nb, no, none⟩) ns.length ca) (fun j => m j || (decide (j < t) && bitF n j)) w wr ∧ Bl wr (w.heap.size + 1) 35 #[.int .u64 0, .int .u64 0, .int .u64 0, .int .u64 0]) (fun c _ => 256 - (intOf c).toNat)
      case atStart => exact ⟨0, by omega, rfl, ⟨HK.out.1, HK.out.2.1, HK.out.2.2.1.congr (fun j _ => by simp), HK.out.2.2.2⟩, HR.out⟩
      case round =>
        clear g0 g1 HK HR
        obtain ⟨t, ht, rfl, hrk, hR⟩ := hrel
        have g0 : wr.cell? ⟨w.heap.size, 0, none⟩ = some (.slice ra rn rc) := hrk.g.cell (o := 0) rfl
        have g1 : wr.cell? ⟨w.heap.size, 1, none⟩ = some (.slice (some ⟨nb, no, none⟩) ns.length ca) := hrk.g.cell (o := 1) rfl
        have HK := Lib.hid hrk
        have HR := Lib.hid hR
        by_cases htl : t < 256
        · have k2 : (t : Int) < 256 := by omega
          have b0 := hrk.b.cell htl
          have z0 := hrk.b.free t
          have e0 : (m t || (decide (t < t) && bitF n t)) = m t := by simp
          rw [e0] at b0
          obtain ⟨kv, c0, c1, c2, c3, c4, c5, c6, ci, -⟩ := HC.out.kept hrk.lo (Nat.le_refl _)
          rw [HW0.out] at c3
          rw [HW1.out] at c4
          rw [HW2.out] at c5
          rw [HW3.out] at c6
          have lb : nb < w.heap.size := by obtain ⟨_, c, -⟩ := HC.out; exact lt_of_cell c
          have e8 : IntKind.u8.wrap (t : Int) = (t : Int) := by rw [IntKind.wrap_u8]; omega
          have HU2 := Lib.hid (HU.out t htl)
          clear hrk hR ci e0
          cases hm : m t with
          | true =>
            rw [hm] at b0
            have HM := Lib.hid hm
            clear hm
            go_wp2
            refine ⟨⟨t + 1, by omega, by go_num, HK.out.set htl true (fun j _ => ?_), HR.out.other (by omega) _⟩, by simp [intOf]; omega⟩
            by_cases e : j = t
            · subst e; rw [if_pos rfl, HM.out]; rfl
            · rw [if_neg e]
              have : decide (j < t + 1) = decide (j < t) := by rw [decide_eq_decide]; omega
              rw [this]
          | false =>
            rw [hm] at b0
            have HM := Lib.hid hm
            clear hm
            go_wp2_with (go_at_call 17; (with_reducible refine (HU2.out _).mono ?_); rintro e w5 ⟨rfl, hb5⟩; have HK5 := Lib.hid (HK.out.below hb5); have HR5 := Lib.hid (HR.out.below hb5); have b5 := HK5.out.b.cell htl; have z5 := HK5.out.b.free t; clear hb5)
            refine ⟨⟨t + 1, by omega, by go_num, HK5.out.set htl (bitF n t) (fun j _ => ?_), HR5.out.other (by omega) _⟩, by simp [intOf]; omega⟩
            by_cases e : j = t
            · subst e; rw [if_pos rfl, HM.out, decide_eq_true (Nat.lt_succ_self j)]; simp
            · rw [if_neg e]
              have : decide (j < t + 1) = decide (j < t) := by rw [decide_eq_decide]; omega
              rw [this]
        · obtain rfl : t = 256 := by omega
          clear hrk hR
          go_wp2
          go_roundw
          case rel => exact ⟨k + 1, by omega, by go_num, ⟨HK.out.1, HK.out.2.1, HK.out.2.2.1.congr (fun j hj => by rw [HT.out, decide_eq_true hj, Bool.true_and]), HK.out.2.2.2⟩, HR.out⟩
          case measure => simp [intOf]; omega
    · obtain rfl : k = ns.length := by omega
      have k1 : ¬ (ns.length : Int) < (ns.length : Int) := by omega
      rw [List.take_length] at HK hrk
      obtain ⟨cs, hB, -⟩ := id hrk.b
      have HO := Lib.hid (rof_any (anyF ns) (w.heap.size + 2) 0 256 wr hB.lt (fun j hj => by rw [Nat.zero_add]; exact hrk.b.cell hj))
      clear hrk hR hB ha hN hw
      go_wp2_with (go_at_call 31; (with_reducible refine HO.out.mono ?_); rintro e w5 ⟨rfl, hb5⟩; have HK5 := Lib.hid (HK.out.below hb5); have hR5 := HR.out.below hb5; have HR5 := Lib.hid hR5; have r0 := hR5.cell (o := 0) rfl; have r1 := hR5.cell (o := 1) rfl; have r2 := hR5.cell (o := 2) rfl; have r3 := hR5.cell (o := 3) rfl; have rf := hR5.free; clear hb5 hR5)
      have hx := HR5.out.set4 (.int .u64 (setW (anyF ns) 0)) (.int .u64 (setW (anyF ns) 1)) (.int .u64 (setW (anyF ns) 2)) (.int .u64 (setW (anyF ns) 3))
      have y0 : _ = some (Value.int .u64 (setW (anyF ns) 0)) := hx.cell (o := 0) rfl
      have y1 : _ = some (Value.int .u64 (setW (anyF ns) 1)) := hx.cell (o := 1) rfl
      have y2 : _ = some (Value.int .u64 (setW (anyF ns) 2)) := hx.cell (o := 2) rfl
      have y3 : _ = some (Value.int .u64 (setW (anyF ns) 3)) := hx.cell (o := 3) rfl
      refine bodyPost_ret (v := setV (anyF ns)) (by simp [results, Try.results16, go_sem, setV, y0, y1, y2, y3]) rfl ⟨rfl, ?_⟩
      exact (((HK5.out.lo.setCell (p := ⟨w.heap.size + 1, 0, none⟩) (by show _ ≤ w.heap.size + 1; omega) _).setCell (p := ⟨w.heap.size + 1, 1, none⟩) (by show _ ≤ w.heap.size + 1; omega) _).setCell (p := ⟨w.heap.size + 1, 2, none⟩) (by show _ ≤ w.heap.size + 1; omega) _).setCell (p := ⟨w.heap.size + 1, 3, none⟩) (by show _ ≤ w.heap.size + 1; omega) _
end
section
open Go.RowKit
theorem info256 : (Try.prog.info? 56).map (fun i => (i.zero, i.size)) = some (some (.agg (Array.replicate 256 (.bool false))), 256) := by kernel_rfl
def bl256 (m : Nat → Bool) : Array Value := ((List.range 256).map fun j => Value.bool (m j)).toArray
theorem bl256_size (m : Nat → Bool) : (bl256 m).size = 256 := by unfold bl256; simp
theorem bl256_at (m : Nat → Bool) (j : Nat) (hj : j < 256) : (bl256 m)[j]? = some (.bool (m j)) := by
  unfold bl256; rw [List.getElem?_toArray, List.getElem?_map, List.getElem?_range hj]; rfl
theorem bl256_one (m : Nat → Bool) : (bl256 m).all (·.oneCell') = true := by
  unfold bl256
  rw [Array.all_eq_true_iff_forall_mem]
  intro v hv
  simp at hv
  obtain ⟨j, -, rfl⟩ := hv
  rfl
set_option maxRecDepth 100000 in
theorem built256 : Try.prog.built 56 [(0, .bool true)] = some ((Array.replicate 256 (.bool false)).setIfInBounds 0 (.bool true)) := by kernel_rfl
set_option maxRecDepth 100000 in
theorem wpList_build256 {ops : Array Oper} {rest : List Oper} {o : Oper} {a : Act} {w : World} {Q : Exit → Act → World → Prop} (hg : o.guard = none) (ho : o.op = .build 56 #[(0, .const (.bool true))])
    (h : wpList Try.prog ops Q rest (a.put o.dst (.agg ((Array.replicate 256 (.bool false)).setIfInBounds 0 (.bool true)))) w) : wpList Try.prog ops Q (o :: rest) a w := by
  have e : (#[(0, Operand.const (.bool true))].map fun (i, x) => (i, a.eval x)).toList = [(0, Value.bool true)] := by simp [Act.eval]
  refine wpList_build hg 56 #[(0, .const (.bool true))] ho (by rw [e, built256]; rfl) ?_
  rw [e, built256]
  exact h
theorem bl256_congr {m m' : Nat → Bool} (h : ∀ j, j < 256 → m j = m' j) : bl256 m = bl256 m' := by
  refine Array.ext_getElem? (fun j => ?_)
  by_cases hj : j < 256
  · rw [bl256_at _ j hj, bl256_at _ j hj, h j hj]
  · rw [Array.getElem?_eq_none (by rw [bl256_size]; omega), Array.getElem?_eq_none (by rw [bl256_size]; omega)]
theorem bl256_set (m : Nat → Bool) (k : Nat) (hk : k < 256) : (bl256 m).setIfInBounds k (.bool true) = bl256 (ins m k) := by
  refine Array.ext_getElem? (fun j => ?_)
  rw [Array.getElem?_setIfInBounds]
  by_cases hj : j < 256
  · rw [bl256_at _ j hj, bl256_at _ j hj]
    unfold ins
    by_cases e : k = j
    · subst e; rw [if_pos rfl, if_pos (by rw [bl256_size]; exact hk)]; simp
    · rw [if_neg e, show (j == k) = false by simp; omega, Bool.or_false]
  · rw [Array.getElem?_eq_none (by rw [bl256_size]; omega), if_neg (by omega), Array.getElem?_eq_none (by rw [bl256_size]; omega)]
theorem wpList_store256 {ops : Array Oper} {rest : List Oper} {o : Oper} {a : Act} {w : World} {Q : Exit → Act → World → Prop} (hgd : o.guard = none) (x y : Operand) (ho : o.op = .store 56 x y) (g : Nat) (old cells : Array Value)
    (hx : a.eval x = .pointer (some ⟨g, 0, none⟩)) (hy : a.eval y = .agg cells) (hg : Bl w g 56 old) (hs : old.size = 256) (hs2 : cells.size = 256) (h1 : cells.all (·.oneCell') = true)
    (h : wpList Try.prog ops Q rest (a.put o.dst undef) (w.setRow g cells)) : wpList Try.prog ops Q (o :: rest) a w :=
  wpList_plain hgd fun _ hK => wp_store_row 56 x y ho g cells hx hy 56 old hg (by rw [hs2]; exact (zero_of_info info256).2) (by rw [hs, hs2]) h1 (hK _ _ h)
theorem wpList_load256 {ops : Array Oper} {rest : List Oper} {o : Oper} {a : Act} {w : World} {Q : Exit → Act → World → Prop} (hgd : o.guard = none) (x : Operand) (ho : o.op = .load 56 x) (g : Nat) (cells : Array Value)
    (hx : a.eval x = .pointer (some ⟨g, 0, none⟩)) (hg : Bl w g 56 cells) (hs : cells.size = 256)
    (h : wpList Try.prog ops Q rest (a.put o.dst (.agg cells)) w) : wpList Try.prog ops Q (o :: rest) a w :=
  wpList_load_row hgd 56 x ho g hx 56 cells (0, 0) _ hg Try.underlying56 rfl (by rw [hs]; exact (zero_of_info info256).2) h
theorem bl256_begin : bl256 (begP []) = (Array.replicate 256 (.bool false)).setIfInBounds 0 (.bool true) := by
  refine Array.ext_getElem? (fun j => ?_)
  rw [Array.getElem?_setIfInBounds]
  by_cases hj : j < 256
  · rw [bl256_at _ j hj]
    by_cases h0 : 0 = j
    · subst h0; simp [begP]
    · rw [if_neg h0, Array.getElem?_replicate, if_pos hj]
      unfold begP; simp; omega
  · rw [Array.getElem?_eq_none (by rw [bl256_size]; omega), if_neg (by omega), Array.getElem?_replicate, if_neg hj]
theorem Kp.cell_eq {S b o : Nat} {t : TypeId} {w w' : World} (h : Kp w.heap.size S S t w w') (hb : b < w.heap.size) (hne : b ≠ S) : w'.cell? ⟨b, o, none⟩ = w.cell? ⟨b, o, none⟩ := by
  simp only [World.cell?, h.block b hb hne hne (.inl hb)]
theorem pairs_off {S b o : Nat} {m : Nat → Bool} {v : Value} {w : World} (h : Bl w S 56 (bl256 m)) (hc : w.cell? ⟨b, o, none⟩ = some v) (hv : ∀ x, v ≠ .bool x) : b ≠ S := by
  rintro rfl
  by_cases ho : o < 256
  · have := h.cell (bl256_at m o ho)
    rw [hc] at this
    exact hv _ (Option.some.inj this)
  · unfold Bl at h
    rw [cell_of_row w b o _ _ _ h, Array.getElem?_eq_none (by rw [bl256_size]; omega)] at hc
    cases hc
set_option maxHeartbeats 8000000 in
set_option maxRecDepth 100000 in
theorem begin_any (ra : Option Addr) (rn rc : Nat) (nv : Value) (ns : List PN) (w : World) (hN : NodesAt w nv ns) (hs : ns.length ≤ 1000000) (hw : ∀ n, n ∈ ns → WordsOk n) :
    Calls Try.prog 28 #[.agg #[.slice ra rn rc, nv]] w fun e w' => e = .returned (.agg (bl256 (begP ns))) ∧ Below w.heap.size w w' := by
  obtain ⟨hl, a, ca, rfl, ha⟩ := id hN
  have hzv := (zero_of_info info256).1
  obtain ⟨W, hW⟩ : ∃ W, (((w.alloc (.cells #[.slice ra rn rc, .slice a ns.length ca] 25)).alloc (.cells (Array.replicate 256 (.bool false)) 56)).alloc (.cells (Array.replicate 256 (.bool false)) 56)).setRow (w.heap.size + 1 + 1) ((Array.replicate 256 (.bool false)).setIfInBounds 0 (.bool true)) = W := ⟨_, rfl⟩
  have hW2 : ((w.alloc (.cells #[.slice ra rn rc, .slice a ns.length ca] 25)).alloc (.cells (Array.replicate 256 (.bool false)) 56)).alloc (.cells (bl256 (begP [])) 56) = W := by
    rw [← hW, bl256_begin]
    have := World.setRow_alloc_new ((w.alloc (.cells #[.slice ra rn rc, .slice a ns.length ca] 25)).alloc (.cells (Array.replicate 256 (.bool false)) 56)) (Array.replicate 256 (.bool false)) ((Array.replicate 256 (.bool false)).setIfInBounds 0 (.bool true)) 56
    rw [← this]
    congr 1
    simp
  have hb0 : Below w.heap.size w W := by rw [← hW2]; exact (two_new w _ _).alloc (by simp; omega) _
  have hG : Bl W w.heap.size 25 #[.slice ra rn rc, .slice a ns.length ca] := by rw [← hW2]; repeat (first | (refine Bl.new' ?_; simp; done) | refine Bl.past ?_)
  have hR0 : Bl W (w.heap.size + 1) 56 (Array.replicate 256 (.bool false)) := by rw [← hW2]; repeat (first | (refine Bl.new' ?_; simp; done) | refine Bl.past ?_)
  have hS0 : Bl W (w.heap.size + 2) 56 (bl256 (begP [])) := by rw [← hW2]; repeat (first | (refine Bl.new' ?_; simp; done) | refine Bl.past ?_)
  have g1 : W.cell? ⟨w.heap.size, 1, none⟩ = some (.slice a ns.length ca) := hG.cell (o := 1) rfl
  have HB0 := Lib.hid hb0
  have HR0 := Lib.hid hR0
  have HS0 := Lib.hid hS0
  clear hb0 hR0 hS0 hG hW2
  go_enter Try.func28, Try.ntmps28
  go_wp2_with (first
    | (refine wpList_build256 rfl rfl ?_)
    | (refine wpList_store256 rfl (.tmp 3) (.tmp 8) rfl (w.heap.size + 1 + 1) (Array.replicate 256 (.bool false)) _ rfl rfl (Bl.new' (by simp)) (by simp) (by simp) (by rw [← bl256_begin]; exact bl256_one _) ?_))
  clear hW g1 hzv
  go_loopw [12] (fun c wr => ∃ k : Nat, k ≤ ns.length ∧ c = .int .i64 k ∧ Below w.heap.size w wr ∧ Bl wr (w.heap.size + 1) 56 (Array.replicate 256 (.bool false)) ∧ Bl wr (w.heap.size + 2) 56 (bl256 (begP (ns.take k)))) (fun c _ => ns.length - (intOf c).toNat)
  case atStart => exact ⟨0, Nat.zero_le _, rfl, HB0.out, HR0.out, HS0.out⟩
  case round =>
    obtain ⟨k, hk, rfl, hb, hR, hS⟩ := hrel
    clear HB0 HR0 HS0
    have HB := Lib.hid hb
    have HR := Lib.hid hR
    have HS := Lib.hid hS
    by_cases hlt : k < ns.length
    · have k1 : (k : Int) < (ns.length : Int) := by omega
      obtain ⟨n, hn⟩ : ∃ n, ns[k]? = some n := ⟨_, List.getElem?_eq_getElem hlt⟩
      rcases ha with h0 | ⟨nb, no, rfl, hca⟩
      · rw [h0] at hlt; exact absurd hlt (Nat.not_lt_zero _)
      obtain ⟨kv, c0, c1, c2, c3, c4, c5, c6, ci, -⟩ := (hca k n hn).kept hb (Nat.le_refl _)
      obtain ⟨ka, kc, rfl, -⟩ := ci
      obtain ⟨w0, w1, w2, w3⟩ := bitF_word (hw n (List.mem_of_getElem? hn))
      rw [w0] at c3
      rw [w1] at c4
      rw [w2] at c5
      rw [w3] at c6
      have HT := Lib.hid (show ∀ c, begP (ns.take (k + 1)) c = (begP (ns.take k) c || (decide (n.op = 1) && edgeB (runsTo (bitF n) 256) c)) from fun c => by rw [take_snoc' ns k n hn, begP_snoc])
      clear hb hR hS hca hn hw w0 w1 w2 w3 hN
      by_cases h1 : n.op = 1
      · have H1 := Lib.hid h1
        rw [h1] at c0
        have h1' : ((1 : Int) != 1) = false := rfl
        have HU := Lib.hid (runs_row (bitF n))
        clear h1
        go_wp2_with (go_at_call 39; (with_reducible refine (HU.out _).mono ?_); rintro e w5 ⟨va, vc, rfl, hp5, hb5⟩; have HP5 := Lib.hid hp5; have HS5 := Lib.hid ((HS.out.below (one_new _ _)).below hb5); have HR5 := Lib.hid ((HR.out.below (one_new _ _)).below hb5); have HB5 := Lib.hid ((HB.out.trans ((one_new _ _).mono HB.out.size)).trans (hb5.mono (Nat.le_trans HB.out.size (one_new _ _).size))); clear hb5 hp5)
        obtain ⟨l, hl0⟩ : ∃ l, runsTo (bitF n) 256 = l := ⟨_, rfl⟩
        have hmem : ∀ x, x ∈ l → x.1 < 256 ∧ x.2 < 256 := by rw [← hl0]; exact runs_mem (bitF n) 256 (Nat.le_refl _)
        have hll : l.length ≤ 256 := by rw [← hl0]; exact runs_len (bitF n) 256
        rw [hl0] at HP5 HT ⊢
        obtain ⟨m, hm0⟩ : ∃ m, begP (ns.take k) = m := ⟨_, rfl⟩
        rw [hm0] at HS5 HT
        have HT2 := Lib.hid (show ∀ c, begP (ns.take (k + 1)) c = (m c || edgeB l c) from fun c => by rw [HT.out, decide_eq_true H1.out, Bool.true_and])
        clear hl0 hm0 HU HT HS HR HB c0 c1 c2 c3 c4 c5 c6
        go_loopw [23] (fun c wr => ∃ t : Nat, t ≤ l.length ∧ c = .int .i64 t ∧ Below w.heap.size w wr ∧ Kp w5.heap.size (w.heap.size + 2) (w.heap.size + 2) 3 w5 wr ∧ Bl wr (w.heap.size + 1) 56 (Array.replicate 256 (.bool false)) ∧ Bl wr (w.heap.size + 2) 56 (bl256 (fun c => m c || edgeB (l.take t) c))) (fun c _ => l.length - (intOf c).toNat)
        case atStart => exact ⟨0, Nat.zero_le _, rfl, HB5.out, Kp.of_below (Below.refl _ _), HR5.out, by rw [bl256_congr (m' := m) (fun j _ => by show (m j || false) = m j; simp)]; exact HS5.out⟩
        case round =>
          obtain ⟨t, ht, rfl, hb, hkp, hR, hS⟩ := hrel
          by_cases htl : t < l.length
          · have k2 : (t : Int) < (l.length : Int) := by omega
            obtain ⟨x, hx⟩ : ∃ x, l[t]? = some x := ⟨_, List.getElem?_eq_getElem htl⟩
            obtain ⟨x1, x2⟩ := hmem x (List.mem_of_getElem? hx)
            obtain ⟨pa, pc, ep, hp⟩ := HP5.out
            injection ep with ep1 ep2 ep3
            subst ep1
            clear ep2 ep3
            rcases hp with h0 | ⟨pb, rfl, hp⟩
            · rw [h0] at htl; exact absurd htl (Nat.not_lt_zero _)
            obtain ⟨p0, p1⟩ := hp t x hx
            have hne := pairs_off HS5.out p0 (fun _ => by simp)
            have lp := lt_of_cell p0
            rw [← hkp.cell_eq lp hne] at p0 p1
            obtain ⟨y, hy⟩ : ∃ y, x.1 = y := ⟨_, rfl⟩
            obtain ⟨z, hz⟩ : ∃ z, x.2 = z := ⟨_, rfl⟩
            obtain ⟨q, hq⟩ : ∃ q, (z + 1) % 256 = q := ⟨_, rfl⟩
            have hq2 : q < 256 := by omega
            have HE := Lib.hid (show ∀ c, edgeB (l.take (t + 1)) c = (edgeB (l.take t) c || (decide (y = c) || decide (q = c))) from fun c => by rw [take_snoc' l t x hx, edgeB_snoc, hy, hz, hq])
            rw [hy] at p0 x1
            rw [hz] at p1 x2
            have ew : IntKind.u8.wrap ((z : Int) + 1) = (q : Int) := by rw [IntKind.wrap_u8]; omega
            have i1 : (y : Int) < 256 := by omega
            have i2 : (q : Int) < 256 := by omega
            have s1 := hS.cell (bl256_at _ y x1)
            have s2 := (hS.set' (o := y) (.bool true)).cell (o := q) (by rw [bl256_set _ y x1]; exact bl256_at _ q hq2)
            have sf := hS.free
            have hz2 : w.heap.size + 1 + 1 < wr.heap.size := hS.lt
            have lp2 : pb < wr.heap.size := Nat.lt_of_lt_of_le lp hkp.size
            have HB := Lib.hid hb
            have HR := Lib.hid hR
            have HS := Lib.hid hS
            have HK := Lib.hid hkp
            clear hb hR hS hkp hp hx hy hz hq hmem
            generalize (m y || edgeB (l.take t) y) = v1 at s1
            generalize (ins (fun c => m c || edgeB (l.take t) c) y q) = v2 at s2
            go_wp2
            have hS4 := HS.out.set' (o := y) (.bool true)
            have hS5 := hS4.set' (o := q) (.bool true)
            rw [bl256_set _ y x1, bl256_set _ q hq2] at hS5
            refine ⟨⟨t + 1, htl, by go_num, ((HB.out.setCell (p := ⟨w.heap.size + 1 + 1, y, none⟩) (by show _ ≤ w.heap.size + 1 + 1; omega) _).setCell (p := ⟨w.heap.size + 1 + 1, q, none⟩) (by show _ ≤ w.heap.size + 1 + 1; omega) _).alloc (by simpa using HB.out.size) _, ((HK.out.trans (Kp.set HS.out (.inl rfl) _)).trans (Kp.set hS4 (.inl rfl) _)).trans (Kp.of_below (one_new _ _)), ((HR.out.other (by omega) _).other (by omega) _).past, ?_⟩, by simp [intOf]; omega⟩
            rw [bl256_congr (m' := ins (ins (fun c => m c || edgeB (l.take t) c) y) q) (fun j _ => ?_)]
            · exact hS5.past
            · rw [HE.out]; unfold ins
              have e1 : (j == y) = decide (y = j) := by rw [Bool.eq_iff_iff]; simp; exact eq_comm
              have e2 : (j == q) = decide (q = j) := by rw [Bool.eq_iff_iff]; simp; exact eq_comm
              rw [e1, e2, ← Bool.or_assoc, ← Bool.or_assoc]
          · obtain rfl : t = l.length := by omega
            have k2 : ¬ (l.length : Int) < (l.length : Int) := by omega
            have HB := Lib.hid hb
            have HR := Lib.hid hR
            have HS := Lib.hid hS
            clear hb hR hS hkp hmem
            go_wp2
            go_roundw
            case rel => exact ⟨k + 1, by omega, by go_num, HB.out, HR.out, by rw [bl256_congr (m' := fun c => m c || edgeB (l.take l.length) c) (fun j _ => by rw [HT2.out, List.take_length])]; exact HS.out⟩
            case measure => simp [intOf]; omega
      · have h1' : (n.op != 1) = true := by simpa using h1
        have HH := Lib.hid h1
        clear h1
        go_wp2
        go_roundw
        case rel =>
          refine ⟨k + 1, by omega, by go_num, HB.out.alloc HB.out.size _, HR.out.below (one_new _ _), ?_⟩
          have e : begP (ns.take (k + 1)) = begP (ns.take k) := by funext c; rw [HT.out, decide_eq_false HH.out]; simp
          rw [e]; exact HS.out.below (one_new _ _)
        case measure => simp [intOf]; omega
    · obtain rfl : k = ns.length := by omega
      have k1 : ¬ (ns.length : Int) < (ns.length : Int) := by omega
      rw [List.take_length] at HS
      clear hb hR hS ha hN hw
      go_wp2_with (first
        | (refine wpList_load256 rfl (.tmp 3) rfl (w.heap.size + 1 + 1) (bl256 (begP ns)) rfl HS.out (bl256_size _) ?_)
        | (refine wpList_store256 rfl (.tmp 2) (.tmp 36) rfl (w.heap.size + 1) (Array.replicate 256 (.bool false)) (bl256 (begP ns)) rfl rfl HR.out (by simp) (bl256_size _) (bl256_one _) ?_))
      refine bodyPost_ret (v := .agg (bl256 (begP ns))) (results_cell_row Try.results28 _ _ (w.heap.size + 1) 56 (bl256 (begP ns)) (0, 0) _ rfl (setRow_heap wr (w.heap.size + 1) _ _ 56 _ HR.out) Try.underlying56 rfl (by rw [bl256_size]; exact (zero_of_info info256).2)) rfl ⟨rfl, ?_⟩
      have hb := HB.out
      exact ⟨hb.os, hb.tape, hb.output, by simpa using hb.size, fun k hk => (setRow_other wr (w.heap.size + 1) k _ (by omega)).trans (hb.block k hk)⟩
end
section
open Go.RowKit
theorem index256 (m : Nat → Bool) (c : Nat) (hc : c < 256) (w : World) : (Instr.index 56 (.agg (bl256 m)) (.int .i64 (c : Int))).run Try.prog w = .ok (.bool (m c)) w := by
  simp [Instr.index, go_sem, bl256_at m c hc]
  intro h; omega
theorem runCells_set (l : List (Nat × Nat)) (a b c : Nat) : (runCells (l ++ [(a, b)])).set (l.length * 2 + 1) (.int .u8 (c : Int)) = runCells (l ++ [(a, c)]) := by
  rw [runCells_snoc, runCells_snoc, ← runCells_len l, List.set_append_right _ _ (by omega)]
  congr 1
  rw [show (runCells l).length + 1 - (runCells l).length = 1 by omega]; rfl
theorem classL_congr {d d' : Nat → Bool} : ∀ k, (∀ j, j < k → d j = d' j) → classL d k = classL d' k
  | 0, _ => rfl
  | k + 1, h => by
    show (if d k then classL d k ++ [(k, k)] else lastTo (classL d k) k) = (if d' k then classL d' k ++ [(k, k)] else lastTo (classL d' k) k)
    rw [h k (by omega), classL_congr k (fun j hj => h j (by omega))]
theorem classL_len (d : Nat → Bool) (h0 : d 0 = true) : ∀ k, (classL d k).length ≤ k
  | 0 => Nat.le_refl _
  | k + 1 => by obtain ⟨l, a, h, -, -, h4⟩ := classL_some d h0 k; rw [h, List.length_append]; simp; omega
def RunsIs (l : List (Nat × Nat)) (w : World) (e : Ending) (w' : World) : Prop := ∃ u, e = .returned u ∧ w'.ownsRow w.heap.size 43 2 u l.length (runCells l) ∧ Below w.heap.size w w'
set_option maxHeartbeats 8000000 in
set_option maxRecDepth 100000 in
theorem mruns_any (ra : Option Addr) (rn rc : Nat) (nv : Value) (ns : List PN) (w : World) (hN : NodesAt w nv ns) (hs : ns.length ≤ 1000000) (hw : ∀ n, n ∈ ns → WordsOk n) :
    Calls Try.prog 12 #[.agg #[.slice ra rn rc, nv]] w (RunsIs (classL (begP ns) 256) w) := by
  obtain ⟨ii, hii, hz0, hz1, hz2⟩ := info_parts Try.infoRun
  have HC := Lib.hid (fun (W : World) (hb : Below w.heap.size w W) => begin_any ra rn rc nv ns W (hN.kept hb (Nat.le_refl _)) hs hw)
  obtain ⟨-, a, ca, rfl, -⟩ := hN
  have h00 : begP ns 0 = true := rfl
  generalize begP ns = d at *
  have H00 := Lib.hid h00
  clear hw h00
  go_enter Try.func12, Try.ntmps12
  go_wp2_with (go_at_call 28; (with_reducible refine (HC.out _ (one_new _ _)).mono ?_); rintro e w1 ⟨rfl, hb1⟩; have HB1 := Lib.hid ((one_new w _).trans (hb1.mono (one_new w _).size)); clear hb1)
  go_loopw [8, 3] (fun c u wr => ∃ k : Nat, k ≤ 256 ∧ c = .int .i64 k ∧ wr.ownsRow w.heap.size 43 2 u (classL d k).length (runCells (classL d k)) ∧ Below w.heap.size w wr) (fun c _ _ => 256 - (intOf c).toNat)
  case atStart => exact ⟨0, by omega, rfl, World.ownsRow_nil _ _ _ _, HB1.out⟩
  case round =>
    obtain ⟨k, hk, rfl, ho, hb⟩ := hrel
    obtain ⟨ua, uc, rfl⟩ := own_slice' ho
    have hle := classL_len d H00.out k
    have HB := Lib.hid hb
    have HO := Lib.hid ho
    by_cases hlt : k < 256
    · have k1 : (k : Int) < 256 := by omega
      have hix := fun w => index256 d k hlt w
      have ew : IntKind.u8.wrap (k : Int) = (k : Int) := by rw [IntKind.wrap_u8]; omega
      cases hd : d k with
      | true =>
        have HS := Lib.hid (show classL d (k + 1) = classL d k ++ [(k, k)] by show (if d k then classL d k ++ [(k, k)] else _) = _; rw [hd]; rfl)
        rw [hd] at hix
        clear hd ho hb
        go_wp2_with (at_builtin; refine wpList_append_own _ rfl _ _ 40 rfl w.heap.size 43 ii (.agg #[.int .u8 0, .int .u8 0]) 2 2 Try.underlying40 hii hz0 hz1 hz2 rfl (by decide) _ (classL d k).length _ rfl (ownsRow_grown HO.out (one_new _ _)) ⟨_, 0, none⟩ 1 1 [.int .u8 (k : Int), .int .u8 (k : Int)] rfl rfl (cell_two_new _ _ _ _) (by simp [Value.oneCell']) (by unfold maxLen; omega) (by omega) (by have := HB.out.size; simp; omega) ?_; intro v5 w5 hown' hgrow _; have HO5 := Lib.hid hown'; have HB5 := Lib.hid ((HB.out.trans ((one_new _ _).mono HB.out.size)).grown hgrow (Nat.le_trans HB.out.size (one_new _ _).size) (fun g e => (HO.out.lt g e).1)); clear hown' hgrow)
        go_roundw
        case rel => exact ⟨k + 1, hlt, by go_num, by rw [HS.out, runCells_snoc]; have := HO5.out; simpa using this, HB5.out⟩
        case measure => simp [intOf]; omega
      | false =>
        have h1k : 1 ≤ k := by
          rcases Nat.eq_zero_or_pos k with h | h
          · subst h; rw [H00.out] at hd; cases hd
          · exact h
        obtain ⟨l, y, hl, -, -, -⟩ := classL_some d H00.out (k - 1)
        rw [show k - 1 + 1 = k by omega] at hl
        have HS := Lib.hid (show classL d (k + 1) = l ++ [(y, k)] by
          show (if d k then _ else lastTo (classL d k) k) = _
          rw [hd, if_neg (by simp), hl]; exact lastTo_snoc l y (k - 1) k)
        rw [hl] at HO ho hle ⊢
        have hn : (l ++ [(y, k - 1)]).length = l.length + 1 := by simp
        rw [hn] at HO ho hle ⊢
        obtain ⟨g, rfl, -, hc, hf⟩ := own_open' ho (by omega)
        have c1 := hc (l.length * 2 + 1) (.int .u8 ((k - 1 : Nat) : Int)) (by rw [runCells_snoc, List.getElem?_append_right (by rw [runCells_len]; omega), runCells_len, show l.length * 2 + 1 - l.length * 2 = 1 by omega]; rfl)
        have HO2 := Lib.hid (own_set (j := l.length * 2 + 1) ho (.int .u8 (k : Int)))
        have hgb := (ho.lt g rfl).1
        have e2 : IntKind.i64.wrap (((l.length + 1 : Nat) : Int) - 1) = (l.length : Int) := by rw [show ((l.length + 1 : Nat) : Int) - 1 = (l.length : Int) by omega]; exact IntWalk.i64_in _ (by omega)
        rw [hd] at hix
        clear hd ho hb hc
        go_wp2
        refine ⟨⟨k + 1, hlt, by go_num, ?_, HB.out.setCell (p := ⟨g, l.length * 2 + 1, none⟩) hgb _⟩, by simp [intOf]; omega⟩
        rw [HS.out, ← runCells_set l y (k - 1) k, show (l ++ [(y, k)]).length = l.length + 1 by simp]
        exact HO2.out
    · obtain rfl : k = 256 := by omega
      clear ho hb
      go_wp2
      go_ret
      exact ⟨_, rfl, HO.out, HB.out⟩
end
end Go.Proofs.Ytklimoepkifnhaa
