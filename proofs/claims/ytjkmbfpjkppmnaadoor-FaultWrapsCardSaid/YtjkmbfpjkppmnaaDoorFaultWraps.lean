/- The walk of the law FaultWraps: it returns true at every description and every name, whatever the library's own table holds. -/
import Derived.Test.YtjkmbfpjkppmnaaDoorBuild2
import Derived.Test.YtjkmbfpjkppmnaaDoorAwake2
import Derived.Test.YtjkmbfpjkppmnaaDoorErrIs
namespace Go.Proofs.YtjkmbfpjkppmnaaDoor
open Go.RowKit
/-- The description, in the variable that the law makes of its argument. -/
structure Five (W : World) (b : Nat) (nl : Bool) (at0 : Option Addr) (n cap : Nat) (c p : Int) (f : Bool) : Prop where
  q0 : W.cell? ⟨b, 0, none⟩ = some (.bool nl)
  q1 : W.cell? ⟨b, 1, none⟩ = some (.slice at0 n cap)
  q2 : W.cell? ⟨b, 2, none⟩ = some (.int .i64 c)
  q3 : W.cell? ⟨b, 3, none⟩ = some (.int .i64 p)
  q4 : W.cell? ⟨b, 4, none⟩ = some (.bool f)
theorem Five.kept {m : Nat} {w w1 : World} {b : Nat} {nl : Bool} {at0 : Option Addr} {n cap : Nat} {c p : Int} {f : Bool} (h : Five w b nl at0 n cap c p f) (hb : Below m w w1) (hn : w.heap.size ≤ m) : Five w1 b nl at0 n cap c p f := by
  have hl := lt_of_cell h.q0
  exact ⟨by rw [(bcell hb).1 _ _ (by omega)]; exact h.q0, by rw [(bcell hb).1 _ _ (by omega)]; exact h.q1, by rw [(bcell hb).1 _ _ (by omega)]; exact h.q2, by rw [(bcell hb).1 _ _ (by omega)]; exact h.q3, by rw [(bcell hb).1 _ _ (by omega)]; exact h.q4⟩
/-- The two cells of the fault that is found. -/
def TwoAt (W : World) (b : Nat) (c p : Int) : Prop := W.cell? ⟨b, 0, none⟩ = some (.int .i64 c) ∧ W.cell? ⟨b, 1, none⟩ = some (.int .i64 p)
theorem TwoAt.kept {m : Nat} {w w1 : World} {b : Nat} {c p : Int} (h : TwoAt w b c p) (hb : Below m w w1) (hn : w.heap.size ≤ m) : TwoAt w1 b c p := by
  have hl := lt_of_cell h.1
  exact ⟨by rw [(bcell hb).1 _ _ (by omega)]; exact h.1, by rw [(bcell hb).1 _ _ (by omega)]; exact h.2⟩
theorem Err.In.kid {b : Nat} {r : ByteArray} {e : Err} {w : World} (h : (Err.within b r e).In w) : e.In w := h.2.2
theorem wrap_ne (c : Int) : wrap64 (c + 1) ≠ c := by
  unfold wrap64
  omega
theorem Is_same (b : Nat) (r : ByteArray) (e : Err) (c : Int) (w : World) (he : (Err.within b r e).In w) (hc : e.codeOf = some c) :
    Calls Tryd.prog 18 #[.iface 60 (.pointer (some ⟨b, 0, none⟩)), .iface 30 (.int .i64 c)] w fun ev w' => ev = .returned (.bool true) ∧ Below w.heap.size w w' :=
  (Is_Code (.within b r e) c w he).mono fun _ _ h => ⟨h.1.trans (ret_bool (by simp [Err.isCode, Err.codeOf, hc])), h.2⟩
theorem Is_next (b : Nat) (r : ByteArray) (e : Err) (c : Int) (w : World) (he : (Err.within b r e).In w) (hc : e.codeOf = some c) :
    Calls Tryd.prog 18 #[.iface 60 (.pointer (some ⟨b, 0, none⟩)), .iface 30 (.int .i64 (wrap64 (c + 1)))] w fun ev w' => ev = .returned (.bool false) ∧ Below w.heap.size w w' :=
  (Is_Code (.within b r e) (wrap64 (c + 1)) w he).mono fun _ _ h => ⟨h.1.trans (ret_bool (by simpa [Err.isCode, Err.codeOf, hc] using (wrap_ne c).symm)), h.2⟩
theorem As_some (b : Nat) (r : ByteArray) (e : Err) (c p : Int) (w : World) (hc : e.faultOf = some (c, p)) (he : (Err.within b r e).In w) (hl : Laid w) :
    Calls Tryd.prog 16 #[.iface 60 (.pointer (some ⟨b, 0, none⟩)), .iface 43 (.pointer (some ⟨w.heap.size, 0, none⟩))] (w.alloc (.cells #[.int .i64 0, .int .i64 0] 41)) fun ev w' => ev = .returned (.bool true) ∧ TwoAt w' w.heap.size c p ∧ Below w.heap.size w w' :=
  (AsNew_Fault_some (.within b r e) c p w hc he hl.1).mono fun _ _ h => ⟨h.1, ⟨h.2.1, h.2.2.1⟩, h.2.2.2.1⟩
theorem As_none (b : Nat) (r : ByteArray) (e : Err) (w : World) (hc : e.faultOf = none) (he : (Err.within b r e).In w) (hl : Laid w) :
    Calls Tryd.prog 16 #[.iface 60 (.pointer (some ⟨b, 0, none⟩)), .iface 43 (.pointer (some ⟨w.heap.size, 0, none⟩))] (w.alloc (.cells #[.int .i64 0, .int .i64 0] 41)) fun ev w' => ev = .returned (.bool false) ∧ Below w.heap.size w w' :=
  (AsNew_Fault_none (.within b r e) w hc he hl.1).mono fun _ _ h => ⟨h.1, ((Below.refl w.heap.size w).alloc (Nat.le_refl _) _).trans (h.2.mono (by simp))⟩
theorem Unwrap_W (b : Nat) (r : ByteArray) (e : Err) (w : World) (he : (Err.within b r e).In w) :
    Calls Tryd.prog 17 #[.iface 60 (.pointer (some ⟨b, 0, none⟩))] w fun ev w' => ev = .returned (.iface e.ty e.inner) ∧ w' = w := by
  have hu := hasUnwrapWithin
  have h := fun w h => unwrap_within b e w h
  rw [e.val_eq] at h
  have h1 := he.2.1
  rw [e.val_eq] at h1
  clear he
  have hc := h w h1
  clear h h1
  go_enter Tryd.func17, Tryd.ntmps17
  go_wp2_with (go_at_call 75; refine hc.mono ?_; rintro ev w1 ⟨rfl, hw⟩; obtain rfl := hw.symm; clear hw)
  go_ret
  exact ⟨rfl, rfl⟩
theorem Error_e (T : Nat → Int) (e : Err) (w : World) (he : e.In w) (hok : e.Ok) (hbk : e.bulk ≤ 1000000) (htab : Tab T w) :
    Calls Tryd.prog e.fnError #[e.inner] w fun ev w' => ev = .returned (.string (e.textT T)) ∧ Below w.heap.size w w' :=
  error_any e (e.textT T) w w (textIs_T T w htab e hok) (Nat.le_trans (textT_size T e hok) hbk) he (Below.refl _ _)
theorem neqS (s : ByteArray) (w : World) : (Op.stringOp .neq s s).run Tryd.prog w = .ok (.bool false) w := by
  simp [Op.stringOp]
theorem eqI (e : Err) (w : World) : (binOp .eql 28 (.iface e.ty e.inner) .nilIface).run Tryd.prog w = .ok (.bool false) w := by
  rw [← e.val_eq]; exact eq_val e w
theorem egI (e : Err) (x y : Operand) (w : World) : (eqGuard .eql 28 x y (.iface e.ty e.inner) .nilIface).run Tryd.prog w = .ok () w := rfl
set_option maxRecDepth 100000 in
set_option maxHeartbeats 4000000 in
theorem wraps_away (nl f : Bool) (at0 : Option Addr) (cap : Nat) (ss : List ByteArray) (nm : ByteArray) (c p : Int) (w : World) (T : Nat → Int) (hl : Laid w) (ht : Tab T w) (hr : RulesAt w at0 ss) (hlen : ss.length ≤ 9223372036854775807) (hsz : ∀ s ∈ ss, s.size ≤ 9223372036854775807) (h : fewB ss = false ∨ fewB ss = true ∧ (nl = true ∨ nl = false ∧ (100 : Int) < nm.size)) :
    Calls Tryd.prog 4 #[.agg #[.bool nl, .slice at0 ss.length cap, .int .i64 c, .int .i64 p, .bool f], .string nm] w fun ev w' => ev = .returned (.bool true) ∧ Below w.heap.size w w' := by
  have Hfew : ∀ w, RulesAt w at0 ss → _ := fun w h => few_any nl f c p at0 cap ss w h hlen hsz
  rcases h with h | ⟨h, h2⟩
  · rw [h] at Hfew
    obtain ⟨n, hn⟩ : ∃ n, n = ss.length := ⟨_, rfl⟩
    rw [← hn]
    have Hn := Lib.hid hn
    clear hn
    obtain ⟨W1, hW1⟩ : ∃ W1, w.alloc (.cells #[.bool nl, .slice at0 n cap, .int .i64 c, .int .i64 p, .bool f] 24) = W1 := ⟨_, rfl⟩
    have hb1 : Below w.heap.size w W1 := by rw [← hW1]; exact (Below.refl _ _).alloc (Nat.le_refl _) _
    have hq : Five W1 w.heap.size nl at0 n cap c p f := ⟨by rw [← hW1]; simp, by rw [← hW1]; simp, by rw [← hW1]; simp, by rw [← hW1]; simp, by rw [← hW1]; simp⟩
    have HQ := Lib.hid hq
    have HR := Lib.hid (hr.kept hb1 (Nat.le_refl _))
    have HL := Lib.hid (hl.kept hb1 (Nat.le_refl _))
    have HT := Lib.hid (ht.kept hb1 (Nat.le_refl _))
    have HB := Lib.hid hb1
    have HW := Lib.hid hW1
    obtain ⟨q0, q1, q2, q3, q4⟩ := HQ.out
    clear hr hl ht hb1 hq hW1
    rw [← Hn.out] at Hfew
    go_enter Tryd.func4, Tryd.ntmps4
    go_wp2_with fail
    rw [HW.out]
    go_wp2_with (first
      | (go_at_call 8; with_reducible refine (awake_any _ HL.out).mono ?_; rintro ev w2 ⟨rfl, hb⟩; replace HL := Lib.hid (HL.out.kept hb (Nat.le_refl _)); replace HR := Lib.hid (HR.out.kept hb (Nat.le_refl _)); replace HT := Lib.hid (HT.out.kept hb (Nat.le_refl _)); replace HQ := Lib.hid (HQ.out.kept hb (Nat.le_refl _)); replace HB := Lib.hid (HB.out.trans (hb.mono HB.out.size)); clear hb; clear q0 q1 q2 q3 q4; obtain ⟨q0, q1, q2, q3, q4⟩ := HQ.out)
      | (go_at_call 9; refine (Hfew _ HR.out).mono ?_; rintro ev w2 ⟨rfl, hb⟩; replace HL := Lib.hid (HL.out.kept hb (Nat.le_refl _)); replace HR := Lib.hid (HR.out.kept hb (Nat.le_refl _)); replace HT := Lib.hid (HT.out.kept hb (Nat.le_refl _)); replace HQ := Lib.hid (HQ.out.kept hb (Nat.le_refl _)); replace HB := Lib.hid (HB.out.trans (hb.mono HB.out.size)); clear hb; clear q0 q1 q2 q3 q4; obtain ⟨q0, q1, q2, q3, q4⟩ := HQ.out))
    go_ret
    exact ⟨rfl, HB.out⟩

  · rw [h] at Hfew
    rcases h2 with rfl | ⟨rfl, h2⟩
    · obtain ⟨n, hn⟩ : ∃ n, n = ss.length := ⟨_, rfl⟩
      rw [← hn]
      have Hn := Lib.hid hn
      clear hn
      obtain ⟨W1, hW1⟩ : ∃ W1, w.alloc (.cells #[.bool true, .slice at0 n cap, .int .i64 c, .int .i64 p, .bool f] 24) = W1 := ⟨_, rfl⟩
      have hb1 : Below w.heap.size w W1 := by rw [← hW1]; exact (Below.refl _ _).alloc (Nat.le_refl _) _
      have hq : Five W1 w.heap.size true at0 n cap c p f := ⟨by rw [← hW1]; simp, by rw [← hW1]; simp, by rw [← hW1]; simp, by rw [← hW1]; simp, by rw [← hW1]; simp⟩
      have HQ := Lib.hid hq
      have HR := Lib.hid (hr.kept hb1 (Nat.le_refl _))
      have HL := Lib.hid (hl.kept hb1 (Nat.le_refl _))
      have HT := Lib.hid (ht.kept hb1 (Nat.le_refl _))
      have HB := Lib.hid hb1
      have HW := Lib.hid hW1
      obtain ⟨q0, q1, q2, q3, q4⟩ := HQ.out
      clear hr hl ht hb1 hq hW1
      rw [← Hn.out] at Hfew
      go_enter Tryd.func4, Tryd.ntmps4
      go_wp2_with fail
      rw [HW.out]
      go_wp2_with (first
        | (go_at_call 8; with_reducible refine (awake_any _ HL.out).mono ?_; rintro ev w2 ⟨rfl, hb⟩; replace HL := Lib.hid (HL.out.kept hb (Nat.le_refl _)); replace HR := Lib.hid (HR.out.kept hb (Nat.le_refl _)); replace HT := Lib.hid (HT.out.kept hb (Nat.le_refl _)); replace HQ := Lib.hid (HQ.out.kept hb (Nat.le_refl _)); replace HB := Lib.hid (HB.out.trans (hb.mono HB.out.size)); clear hb; clear q0 q1 q2 q3 q4; obtain ⟨q0, q1, q2, q3, q4⟩ := HQ.out)
        | (go_at_call 9; refine (Hfew _ HR.out).mono ?_; rintro ev w2 ⟨rfl, hb⟩; replace HL := Lib.hid (HL.out.kept hb (Nat.le_refl _)); replace HR := Lib.hid (HR.out.kept hb (Nat.le_refl _)); replace HT := Lib.hid (HT.out.kept hb (Nat.le_refl _)); replace HQ := Lib.hid (HQ.out.kept hb (Nat.le_refl _)); replace HB := Lib.hid (HB.out.trans (hb.mono HB.out.size)); clear hb; clear q0 q1 q2 q3 q4; obtain ⟨q0, q1, q2, q3, q4⟩ := HQ.out))
      go_ret
      exact ⟨rfl, HB.out⟩

    · obtain ⟨n, hn⟩ : ∃ n, n = ss.length := ⟨_, rfl⟩
      rw [← hn]
      have Hn := Lib.hid hn
      clear hn
      obtain ⟨W1, hW1⟩ : ∃ W1, w.alloc (.cells #[.bool false, .slice at0 n cap, .int .i64 c, .int .i64 p, .bool f] 24) = W1 := ⟨_, rfl⟩
      have hb1 : Below w.heap.size w W1 := by rw [← hW1]; exact (Below.refl _ _).alloc (Nat.le_refl _) _
      have hq : Five W1 w.heap.size false at0 n cap c p f := ⟨by rw [← hW1]; simp, by rw [← hW1]; simp, by rw [← hW1]; simp, by rw [← hW1]; simp, by rw [← hW1]; simp⟩
      have HQ := Lib.hid hq
      have HR := Lib.hid (hr.kept hb1 (Nat.le_refl _))
      have HL := Lib.hid (hl.kept hb1 (Nat.le_refl _))
      have HT := Lib.hid (ht.kept hb1 (Nat.le_refl _))
      have HB := Lib.hid hb1
      have HW := Lib.hid hW1
      obtain ⟨q0, q1, q2, q3, q4⟩ := HQ.out
      clear hr hl ht hb1 hq hW1
      rw [← Hn.out] at Hfew
      go_enter Tryd.func4, Tryd.ntmps4
      go_wp2_with fail
      rw [HW.out]
      go_wp2_with (first
        | (go_at_call 8; with_reducible refine (awake_any _ HL.out).mono ?_; rintro ev w2 ⟨rfl, hb⟩; replace HL := Lib.hid (HL.out.kept hb (Nat.le_refl _)); replace HR := Lib.hid (HR.out.kept hb (Nat.le_refl _)); replace HT := Lib.hid (HT.out.kept hb (Nat.le_refl _)); replace HQ := Lib.hid (HQ.out.kept hb (Nat.le_refl _)); replace HB := Lib.hid (HB.out.trans (hb.mono HB.out.size)); clear hb; clear q0 q1 q2 q3 q4; obtain ⟨q0, q1, q2, q3, q4⟩ := HQ.out)
        | (go_at_call 9; refine (Hfew _ HR.out).mono ?_; rintro ev w2 ⟨rfl, hb⟩; replace HL := Lib.hid (HL.out.kept hb (Nat.le_refl _)); replace HR := Lib.hid (HR.out.kept hb (Nat.le_refl _)); replace HT := Lib.hid (HT.out.kept hb (Nat.le_refl _)); replace HQ := Lib.hid (HQ.out.kept hb (Nat.le_refl _)); replace HB := Lib.hid (HB.out.trans (hb.mono HB.out.size)); clear hb; clear q0 q1 q2 q3 q4; obtain ⟨q0, q1, q2, q3, q4⟩ := HQ.out))
      go_ret
      exact ⟨rfl, HB.out⟩

set_option maxRecDepth 100000 in
set_option maxHeartbeats 8000000 in
theorem wraps_main_false (at0 : Option Addr) (cap : Nat) (ss : List ByteArray) (nm : ByteArray) (c p : Int) (w : World) (T : Nat → Int) (hl : Laid w) (ht : Tab T w) (hr : RulesAt w at0 ss) (hlen : ss.length ≤ 9223372036854775807) (hsz : ∀ s ∈ ss, s.size ≤ 9223372036854775807) (h0 : -9223372036854775808 ≤ c) (h1 : c ≤ 9223372036854775807) (h : fewB ss = true) (hnm : ¬ (100 : Int) < nm.size) :
    Calls Tryd.prog 4 #[.agg #[.bool false, .slice at0 ss.length cap, .int .i64 c, .int .i64 p, .bool false], .string nm] w fun ev w' => ev = .returned (.bool true) ∧ Below w.heap.size w w' := by
  have Hfew : ∀ w, RulesAt w at0 ss → _ := fun w h => few_any false false c p at0 cap ss w h hlen hsz
  have Hbuild : ∀ w, RulesAt w at0 ss → _ := fun w hr => build_any false c p at0 cap ss w hr h h0 h1
  have hn20 := (fewB_true h).1
  rw [h] at Hfew
  obtain ⟨n, hn⟩ : ∃ n, n = ss.length := ⟨_, rfl⟩
  rw [← hn]
  have Hn := Lib.hid hn
  clear hn
  obtain ⟨W1, hW1⟩ : ∃ W1, w.alloc (.cells #[.bool false, .slice at0 n cap, .int .i64 c, .int .i64 p, .bool false] 24) = W1 := ⟨_, rfl⟩
  have hb1 : Below w.heap.size w W1 := by rw [← hW1]; exact (Below.refl _ _).alloc (Nat.le_refl _) _
  have hq : Five W1 w.heap.size false at0 n cap c p false := ⟨by rw [← hW1]; simp, by rw [← hW1]; simp, by rw [← hW1]; simp, by rw [← hW1]; simp, by rw [← hW1]; simp⟩
  have HQ := Lib.hid hq
  have HR := Lib.hid (hr.kept hb1 (Nat.le_refl _))
  have HL := Lib.hid (hl.kept hb1 (Nat.le_refl _))
  have HT := Lib.hid (ht.kept hb1 (Nat.le_refl _))
  have HB := Lib.hid hb1
  have HW := Lib.hid hW1
  obtain ⟨q0, q1, q2, q3, q4⟩ := HQ.out
  clear hr hl ht hb1 hq hW1
  rw [← Hn.out] at Hfew Hbuild hn20
  have Hn20 := Lib.hid hn20
  have HC0 := Lib.hid h0
  have HC1 := Lib.hid h1
  have HBUILD := Lib.hid Hbuild
  clear hn20 h0 h1 Hbuild
  go_enter Tryd.func4, Tryd.ntmps4
  go_wp2_with fail
  rw [HW.out]
  go_wp2_with (first
    | (go_at_call 8; with_reducible refine (awake_any _ HL.out).mono ?_; rintro ev w2 ⟨rfl, hb⟩; replace HL := Lib.hid (HL.out.kept hb (Nat.le_refl _)); replace HR := Lib.hid (HR.out.kept hb (Nat.le_refl _)); replace HT := Lib.hid (HT.out.kept hb (Nat.le_refl _)); replace HQ := Lib.hid (HQ.out.kept hb (Nat.le_refl _)); replace HB := Lib.hid (HB.out.trans (hb.mono HB.out.size)); clear hb; clear q0 q1 q2 q3 q4; obtain ⟨q0, q1, q2, q3, q4⟩ := HQ.out)
    | (go_at_call 9; refine (Hfew _ HR.out).mono ?_; rintro ev w2 ⟨rfl, hb⟩; replace HL := Lib.hid (HL.out.kept hb (Nat.le_refl _)); replace HR := Lib.hid (HR.out.kept hb (Nat.le_refl _)); replace HT := Lib.hid (HT.out.kept hb (Nat.le_refl _)); replace HQ := Lib.hid (HQ.out.kept hb (Nat.le_refl _)); replace HB := Lib.hid (HB.out.trans (hb.mono HB.out.size)); clear hb; clear q0 q1 q2 q3 q4; obtain ⟨q0, q1, q2, q3, q4⟩ := HQ.out))
  refine (HBUILD.out _ HR.out).mono ?_
  rintro ev w3 ⟨e, rfl, hBu, hI, hb⟩
  have hbk : e.bulk ≤ 1000000 := by have := hBu.bulk; have := Hn20.out; omega
  have HBu := Lib.hid hBu
  have HI := Lib.hid hI
  have HK := Lib.hid hbk
  clear hBu hI hbk
  replace HL := Lib.hid (HL.out.kept hb (Nat.le_refl _)); replace HR := Lib.hid (HR.out.kept hb (Nat.le_refl _)); replace HT := Lib.hid (HT.out.kept hb (Nat.le_refl _)); replace HQ := Lib.hid (HQ.out.kept hb (Nat.le_refl _)); replace HB := Lib.hid (HB.out.trans (hb.mono HB.out.size)); clear hb; clear q0 q1 q2 q3 q4; obtain ⟨q0, q1, q2, q3, q4⟩ := HQ.out
  have me := m_error e
  have ee := enter_error e
  have ne := n_error e
  have qs := neqS (e.textT T)
  have n1 := eqI e
  have n2 := egI e
  have n3 := egI e
  go_wp2_with (go_at_call 15; refine (Within_e _ _ _ HI.out).mono ?_; rintro ev w4 ⟨rfl, hI, hb⟩; replace HI := Lib.hid hI; clear hI; replace HL := Lib.hid (HL.out.kept hb (Nat.le_refl _)); replace HR := Lib.hid (HR.out.kept hb (Nat.le_refl _)); replace HT := Lib.hid (HT.out.kept hb (Nat.le_refl _)); replace HQ := Lib.hid (HQ.out.kept hb (Nat.le_refl _)); replace HB := Lib.hid (HB.out.trans (hb.mono HB.out.size)); clear hb; clear q0 q1 q2 q3 q4; obtain ⟨q0, q1, q2, q3, q4⟩ := HQ.out)
  go_wp2_with (first
    | (go_at_call 16; with_reducible refine (As_none _ _ _ _ HBu.out.fault HI.out HL.out).mono ?_; rintro ev w2 ⟨rfl, hb⟩; replace HI := Lib.hid (HI.out.kept hb (Nat.le_refl _)); replace HL := Lib.hid (HL.out.kept hb (Nat.le_refl _)); replace HR := Lib.hid (HR.out.kept hb (Nat.le_refl _)); replace HT := Lib.hid (HT.out.kept hb (Nat.le_refl _)); replace HQ := Lib.hid (HQ.out.kept hb (Nat.le_refl _)); replace HB := Lib.hid (HB.out.trans (hb.mono HB.out.size)); clear hb; clear q0 q1 q2 q3 q4; obtain ⟨q0, q1, q2, q3, q4⟩ := HQ.out)
    | (go_at_call 17; with_reducible refine (Unwrap_W _ _ _ _ HI.out).mono ?_; rintro ev w9 ⟨rfl, hw⟩; obtain rfl := hw.symm; clear hw)
    | (go_at_call 18; with_reducible refine (Is_same _ _ _ _ _ HI.out HBu.out.code).mono ?_; rintro ev w2 ⟨rfl, hb⟩; replace HI := Lib.hid (HI.out.kept hb (Nat.le_refl _)); replace HL := Lib.hid (HL.out.kept hb (Nat.le_refl _)); replace HR := Lib.hid (HR.out.kept hb (Nat.le_refl _)); replace HT := Lib.hid (HT.out.kept hb (Nat.le_refl _)); replace HQ := Lib.hid (HQ.out.kept hb (Nat.le_refl _)); replace HB := Lib.hid (HB.out.trans (hb.mono HB.out.size)); clear hb; clear q0 q1 q2 q3 q4; obtain ⟨q0, q1, q2, q3, q4⟩ := HQ.out)
    | (go_at_call 18; with_reducible refine (Is_next _ _ _ _ _ HI.out HBu.out.code).mono ?_; rintro ev w2 ⟨rfl, hb⟩; replace HI := Lib.hid (HI.out.kept hb (Nat.le_refl _)); replace HL := Lib.hid (HL.out.kept hb (Nat.le_refl _)); replace HR := Lib.hid (HR.out.kept hb (Nat.le_refl _)); replace HT := Lib.hid (HT.out.kept hb (Nat.le_refl _)); replace HQ := Lib.hid (HQ.out.kept hb (Nat.le_refl _)); replace HB := Lib.hid (HB.out.trans (hb.mono HB.out.size)); clear hb; clear q0 q1 q2 q3 q4; obtain ⟨q0, q1, q2, q3, q4⟩ := HQ.out)
    | ((with_reducible refine (Error_e T e _ HI.out.kid HBu.out.ok HK.out HT.out).mono ?_); rintro ev w2 ⟨rfl, hb⟩; replace HI := Lib.hid (HI.out.kept hb (Nat.le_refl _)); replace HL := Lib.hid (HL.out.kept hb (Nat.le_refl _)); replace HR := Lib.hid (HR.out.kept hb (Nat.le_refl _)); replace HT := Lib.hid (HT.out.kept hb (Nat.le_refl _)); replace HQ := Lib.hid (HQ.out.kept hb (Nat.le_refl _)); replace HB := Lib.hid (HB.out.trans (hb.mono HB.out.size)); clear hb; clear q0 q1 q2 q3 q4; obtain ⟨q0, q1, q2, q3, q4⟩ := HQ.out))
  go_ret
  exact ⟨rfl, HB.out⟩
set_option maxRecDepth 100000 in
set_option maxHeartbeats 8000000 in
theorem wraps_main_true (at0 : Option Addr) (cap : Nat) (ss : List ByteArray) (nm : ByteArray) (c p : Int) (w : World) (T : Nat → Int) (hl : Laid w) (ht : Tab T w) (hr : RulesAt w at0 ss) (hlen : ss.length ≤ 9223372036854775807) (hsz : ∀ s ∈ ss, s.size ≤ 9223372036854775807) (h0 : -9223372036854775808 ≤ c) (h1 : c ≤ 9223372036854775807) (h : fewB ss = true) (hnm : ¬ (100 : Int) < nm.size) :
    Calls Tryd.prog 4 #[.agg #[.bool false, .slice at0 ss.length cap, .int .i64 c, .int .i64 p, .bool true], .string nm] w fun ev w' => ev = .returned (.bool true) ∧ Below w.heap.size w w' := by
  have Hfew : ∀ w, RulesAt w at0 ss → _ := fun w h => few_any false true c p at0 cap ss w h hlen hsz
  have Hbuild : ∀ w, RulesAt w at0 ss → _ := fun w hr => build_any true c p at0 cap ss w hr h h0 h1
  have hn20 := (fewB_true h).1
  rw [h] at Hfew
  obtain ⟨n, hn⟩ : ∃ n, n = ss.length := ⟨_, rfl⟩
  rw [← hn]
  have Hn := Lib.hid hn
  clear hn
  obtain ⟨W1, hW1⟩ : ∃ W1, w.alloc (.cells #[.bool false, .slice at0 n cap, .int .i64 c, .int .i64 p, .bool true] 24) = W1 := ⟨_, rfl⟩
  have hb1 : Below w.heap.size w W1 := by rw [← hW1]; exact (Below.refl _ _).alloc (Nat.le_refl _) _
  have hq : Five W1 w.heap.size false at0 n cap c p true := ⟨by rw [← hW1]; simp, by rw [← hW1]; simp, by rw [← hW1]; simp, by rw [← hW1]; simp, by rw [← hW1]; simp⟩
  have HQ := Lib.hid hq
  have HR := Lib.hid (hr.kept hb1 (Nat.le_refl _))
  have HL := Lib.hid (hl.kept hb1 (Nat.le_refl _))
  have HT := Lib.hid (ht.kept hb1 (Nat.le_refl _))
  have HB := Lib.hid hb1
  have HW := Lib.hid hW1
  obtain ⟨q0, q1, q2, q3, q4⟩ := HQ.out
  clear hr hl ht hb1 hq hW1
  rw [← Hn.out] at Hfew Hbuild hn20
  have Hn20 := Lib.hid hn20
  have HC0 := Lib.hid h0
  have HC1 := Lib.hid h1
  have HBUILD := Lib.hid Hbuild
  clear hn20 h0 h1 Hbuild
  go_enter Tryd.func4, Tryd.ntmps4
  go_wp2_with fail
  rw [HW.out]
  go_wp2_with (first
    | (go_at_call 8; with_reducible refine (awake_any _ HL.out).mono ?_; rintro ev w2 ⟨rfl, hb⟩; replace HL := Lib.hid (HL.out.kept hb (Nat.le_refl _)); replace HR := Lib.hid (HR.out.kept hb (Nat.le_refl _)); replace HT := Lib.hid (HT.out.kept hb (Nat.le_refl _)); replace HQ := Lib.hid (HQ.out.kept hb (Nat.le_refl _)); replace HB := Lib.hid (HB.out.trans (hb.mono HB.out.size)); clear hb; clear q0 q1 q2 q3 q4; obtain ⟨q0, q1, q2, q3, q4⟩ := HQ.out)
    | (go_at_call 9; refine (Hfew _ HR.out).mono ?_; rintro ev w2 ⟨rfl, hb⟩; replace HL := Lib.hid (HL.out.kept hb (Nat.le_refl _)); replace HR := Lib.hid (HR.out.kept hb (Nat.le_refl _)); replace HT := Lib.hid (HT.out.kept hb (Nat.le_refl _)); replace HQ := Lib.hid (HQ.out.kept hb (Nat.le_refl _)); replace HB := Lib.hid (HB.out.trans (hb.mono HB.out.size)); clear hb; clear q0 q1 q2 q3 q4; obtain ⟨q0, q1, q2, q3, q4⟩ := HQ.out))
  refine (HBUILD.out _ HR.out).mono ?_
  rintro ev w3 ⟨e, rfl, hBu, hI, hb⟩
  have hbk : e.bulk ≤ 1000000 := by have := hBu.bulk; have := Hn20.out; omega
  have HBu := Lib.hid hBu
  have HI := Lib.hid hI
  have HK := Lib.hid hbk
  clear hBu hI hbk
  replace HL := Lib.hid (HL.out.kept hb (Nat.le_refl _)); replace HR := Lib.hid (HR.out.kept hb (Nat.le_refl _)); replace HT := Lib.hid (HT.out.kept hb (Nat.le_refl _)); replace HQ := Lib.hid (HQ.out.kept hb (Nat.le_refl _)); replace HB := Lib.hid (HB.out.trans (hb.mono HB.out.size)); clear hb; clear q0 q1 q2 q3 q4; obtain ⟨q0, q1, q2, q3, q4⟩ := HQ.out
  have me := m_error e
  have ee := enter_error e
  have ne := n_error e
  have qs := neqS (e.textT T)
  have n1 := eqI e
  have n2 := egI e
  have n3 := egI e
  go_wp2_with (go_at_call 15; refine (Within_e _ _ _ HI.out).mono ?_; rintro ev w4 ⟨rfl, hI, hb⟩; replace HI := Lib.hid hI; clear hI; replace HL := Lib.hid (HL.out.kept hb (Nat.le_refl _)); replace HR := Lib.hid (HR.out.kept hb (Nat.le_refl _)); replace HT := Lib.hid (HT.out.kept hb (Nat.le_refl _)); replace HQ := Lib.hid (HQ.out.kept hb (Nat.le_refl _)); replace HB := Lib.hid (HB.out.trans (hb.mono HB.out.size)); clear hb; clear q0 q1 q2 q3 q4; obtain ⟨q0, q1, q2, q3, q4⟩ := HQ.out)
  go_wp2_with (first
    | (go_at_call 16; with_reducible refine (As_some _ _ _ _ _ _ HBu.out.fault HI.out HL.out).mono ?_; rintro ev w2 ⟨rfl, hF, hb⟩; have HF := Lib.hid hF; clear hF; replace HI := Lib.hid (HI.out.kept hb (Nat.le_refl _)); replace HL := Lib.hid (HL.out.kept hb (Nat.le_refl _)); replace HR := Lib.hid (HR.out.kept hb (Nat.le_refl _)); replace HT := Lib.hid (HT.out.kept hb (Nat.le_refl _)); replace HQ := Lib.hid (HQ.out.kept hb (Nat.le_refl _)); replace HB := Lib.hid (HB.out.trans (hb.mono HB.out.size)); clear hb; clear q0 q1 q2 q3 q4; obtain ⟨q0, q1, q2, q3, q4⟩ := HQ.out)
    | (go_at_call 17; with_reducible refine (Unwrap_W _ _ _ _ HI.out).mono ?_; rintro ev w9 ⟨rfl, hw⟩; obtain rfl := hw.symm; clear hw)
    | (go_at_call 18; with_reducible refine (Is_same _ _ _ _ _ HI.out HBu.out.code).mono ?_; rintro ev w2 ⟨rfl, hb⟩; replace HI := Lib.hid (HI.out.kept hb (Nat.le_refl _)); replace HL := Lib.hid (HL.out.kept hb (Nat.le_refl _)); replace HR := Lib.hid (HR.out.kept hb (Nat.le_refl _)); replace HT := Lib.hid (HT.out.kept hb (Nat.le_refl _)); replace HQ := Lib.hid (HQ.out.kept hb (Nat.le_refl _)); replace HB := Lib.hid (HB.out.trans (hb.mono HB.out.size)); clear hb; clear q0 q1 q2 q3 q4; obtain ⟨q0, q1, q2, q3, q4⟩ := HQ.out)
    | (go_at_call 18; with_reducible refine (Is_next _ _ _ _ _ HI.out HBu.out.code).mono ?_; rintro ev w2 ⟨rfl, hb⟩; replace HI := Lib.hid (HI.out.kept hb (Nat.le_refl _)); replace HL := Lib.hid (HL.out.kept hb (Nat.le_refl _)); replace HR := Lib.hid (HR.out.kept hb (Nat.le_refl _)); replace HT := Lib.hid (HT.out.kept hb (Nat.le_refl _)); replace HQ := Lib.hid (HQ.out.kept hb (Nat.le_refl _)); replace HB := Lib.hid (HB.out.trans (hb.mono HB.out.size)); clear hb; clear q0 q1 q2 q3 q4; obtain ⟨q0, q1, q2, q3, q4⟩ := HQ.out)
    | ((with_reducible refine (Error_e T e _ HI.out.kid HBu.out.ok HK.out HT.out).mono ?_); rintro ev w2 ⟨rfl, hb⟩; replace HI := Lib.hid (HI.out.kept hb (Nat.le_refl _)); replace HF := Lib.hid (HF.out.kept hb (Nat.le_refl _)); obtain ⟨f0, f1⟩ := HF.out; replace HL := Lib.hid (HL.out.kept hb (Nat.le_refl _)); replace HR := Lib.hid (HR.out.kept hb (Nat.le_refl _)); replace HT := Lib.hid (HT.out.kept hb (Nat.le_refl _)); replace HQ := Lib.hid (HQ.out.kept hb (Nat.le_refl _)); replace HB := Lib.hid (HB.out.trans (hb.mono HB.out.size)); clear hb; clear q0 q1 q2 q3 q4; obtain ⟨q0, q1, q2, q3, q4⟩ := HQ.out))
  go_ret
  exact ⟨rfl, HB.out⟩
end Go.Proofs.YtjkmbfpjkppmnaaDoor
