/- fault.New and fault.Within at a fault; gram.checkSize, checkNodes, checkDepths, checkNames. -/
import Derived.Test.YtbhejkjgebhpoaaGramDep
import Derived.Test.YtbhejkjgebhpoaaGramDeps
import Derived.Test.YtbhejkjgebhpoaaLexStr
import Derived.Test.YtbhejkjgebhpoaaErr
import Derived.Maps.OwnOps
import Derived.Maps.OwnSet
namespace Go.Proofs.Ytbhejkjgebhpoaa
open Go.RowKit
open Go.Maps
theorem gNew_any (c p : Int) (w : World) :
    Calls Try.prog 39 #[.int .i64 c, .int .i64 p] w fun ev w' => ev = .returned (.iface 74 (.agg #[.int .i64 c, .int .i64 p])) ∧ w = w' := by
  go_enter Try.func39, Try.ntmps39
  go_wp2
  go_ret
  exact ⟨rfl, rfl⟩
theorem gWithin_any (r : ByteArray) (c p : Int) (w : World) :
    Calls Try.prog 38 #[.string r, .iface 74 (.agg #[.int .i64 c, .int .i64 p])] w fun ev w' => ev = .returned (.iface 70 (.pointer (some ⟨w.heap.size, 0, none⟩))) ∧ w' = w.alloc (.cells #[.string r, .iface 74 (.agg #[.int .i64 c, .int .i64 p])] 72) := by
  go_enter Try.func38, Try.ntmps38
  go_wp2
  go_ret
  exact ⟨rfl, rfl⟩
/-- The error that a part's check makes. -/
def PartErr (part : ByteArray) (c p : Int) (w : World) (e : Ending) (w' : World) : Prop := (∃ b, e = .returned (.iface 70 (.pointer (some ⟨b, 0, none⟩))) ∧ (Err.within b part (.fault c p)).In w') ∧ Below w.heap.size w w'
theorem PartErr.mk {part : ByteArray} {c p : Int} {W w : World} {n : Nat} (hn : n = W.heap.size) (hb : Below w.heap.size w W) : PartErr part c p w (.returned (.iface 70 (.pointer (some ⟨n, 0, none⟩)))) (W.alloc (.cells #[.string part, .iface 74 (.agg #[.int .i64 c, .int .i64 p])] 72)) := by
  subst hn
  refine ⟨⟨_, rfl, ?_⟩, hb.alloc hb.size _⟩
  refine ⟨by simp, by simp [Err.val], trivial⟩
set_option maxHeartbeats 1000000 in
theorem size_any (ra na : Option Addr) (rn rc nn nc : Nat) (w : World) (hr : rn ≤ 9223372036854775807) (hn : nn ≤ 9223372036854775807) :
    Calls Try.prog 29 #[.agg #[.slice ra rn rc, .slice na nn nc]] w fun e w' => e = .returned (if 1000 < rn ∨ 10000 < nn then .iface 62 (.int .i64 4) else .nilIface) ∧ Below w.heap.size w w' := by
  by_cases h1 : 1000 < rn
  · rw [if_pos (Or.inl h1)]
    have k1 : (1000 : Int) < (rn : Int) := by omega
    go_enter Try.func29, Try.ntmps29
    go_wp2
    go_ret
    exact ⟨rfl, one_new _ _⟩
  · have k1 : ¬ (1000 : Int) < (rn : Int) := by omega
    by_cases h2 : 10000 < nn
    · rw [if_pos (Or.inr h2)]
      have k2 : (10000 : Int) < (nn : Int) := by omega
      go_enter Try.func29, Try.ntmps29
      go_wp2
      go_ret
      exact ⟨rfl, one_new _ _⟩
    · rw [if_neg (by omega)]
      have k2 : ¬ (10000 : Int) < (nn : Int) := by omega
      go_enter Try.func29, Try.ntmps29
      go_wp2
      go_ret
      exact ⟨rfl, one_new _ _⟩
/-- The text of a part's name. -/
def sRules : ByteArray := ⟨#[114, 117, 108, 101, 115]⟩
def sNodes : ByteArray := ⟨#[110, 111, 100, 101, 115]⟩
/-- What a check returns that looks for the first that is wrong. -/
def FirstIs (o : Option Nat) (part : ByteArray) (c : Int) (w : World) (e : Ending) (w' : World) : Prop := match o with
  | none => e = .returned .nilIface ∧ Below w.heap.size w w'
  | some p => PartErr part c (p : Int) w e w'
theorem FirstIs.nil {o : Option Nat} {part : ByteArray} {c : Int} {w w' : World} (h : o = .none) (hb : Below w.heap.size w w') : FirstIs o part c w (.returned .nilIface) w' := by subst h; exact ⟨rfl, hb⟩
theorem FirstIs.hit {o : Option Nat} {part : ByteArray} {c : Int} {w W : World} {p n : Nat} (h : o = .some p) (hn : n = W.heap.size) (hb : Below w.heap.size w W) : FirstIs o part c w (.returned (.iface 70 (.pointer (some ⟨n, 0, none⟩)))) (W.alloc (.cells #[.string part, .iface 74 (.agg #[.int .i64 c, .int .i64 (p : Int)])] 72)) := by
  subst h; exact PartErr.mk hn hb
set_option maxHeartbeats 2000000 in
set_option maxRecDepth 100000 in
theorem cdepths_any (ra : Option Addr) (rn rc : Nat) (nv : Value) (ns : List PN) (w : World) (hN : NodesAt w nv ns) (hs : ns.length ≤ 1000000) (hK : KidsBelow ns) :
    Calls Try.prog 33 #[.agg #[.slice ra rn rc, nv]] w (FirstIs (fbad (deepBad ns) ns.length 0) sNodes 5 w) := by
  have HD := Lib.hid (fun (o : Obj) => depths_any ra rn rc nv ns (w.alloc o) (hN.kept (one_new w o) (Nat.le_refl _)) hs hK)
  have hdl : ∀ i, i < ns.length → dpL ns i ≤ 1000001 := fun i hi => by have := dpL_le hK (i + 1) i (Nat.lt_succ_self _) hi; omega
  have HL := Lib.hid hdl
  clear hdl
  obtain ⟨-, a, ca, rfl, -⟩ := hN
  go_enter Try.func33, Try.ntmps33
  go_wp2_with (go_at_call 8; (with_reducible refine (HD.out _).mono ?_); rintro e w1 ⟨⟨B, cap, rfl, hB0, hB1, hnat⟩, hb⟩; have HN := Lib.hid hnat; have HW := Lib.hid ((one_new w _).trans (hb.mono (one_new w _).size)); clear hb hnat)
  go_loop [8] (fun c => ∃ k : Nat, k ≤ ns.length ∧ c = .int .i64 k ∧ fbad (deepBad ns) ns.length 0 = fbad (deepBad ns) (ns.length - k) k) (fun c => ns.length - (intOf c).toNat)
  case atStart => exact ⟨0, Nat.zero_le _, rfl, rfl⟩
  case round =>
    obtain ⟨k, hk, rfl, hf⟩ := hrel
    have HF := Lib.hid hf
    clear hf
    by_cases hlt : k < ns.length
    · obtain ⟨c0, -⟩ := HN.out k hlt
      have hle := HL.out k hlt
      have k1 : (k : Int) < (ns.length : Int) := by omega
      have hsub : ns.length - k = (ns.length - (k + 1)) + 1 := by omega
      rw [hsub] at HF
      clear hsub
      by_cases hd : 200 < dpL ns k
      · have hbad : deepBad ns k = true := decide_eq_true hd
        have HR := Lib.hid (HF.out.trans (fbad_yes hbad))
        have k2 : (200 : Int) < (dpL ns k : Int) := by omega
        clear hbad
        go_wp2_with (first
          | (go_at_call 39; (with_reducible refine (gNew_any _ _ _).mono ?_); rintro e w2 ⟨rfl, rfl⟩)
          | (go_at_call 38; (with_reducible refine (gWithin_any _ _ _ _).mono ?_); rintro e w2 ⟨rfl, rfl⟩))
        go_ret
        exact FirstIs.hit HR.out rfl HW.out
      · have hbad : deepBad ns k = false := decide_eq_false hd
        have HR := Lib.hid (HF.out.trans (fbad_no hbad))
        have k2 : ¬ (200 : Int) < (dpL ns k : Int) := by omega
        clear hbad
        go_wp2
        go_round
        case rel => exact ⟨k + 1, by omega, by go_num, HR.out⟩
        case measure => simp [intOf]; omega
    · obtain rfl : k = ns.length := by omega
      have k1 : ¬ (ns.length : Int) < (ns.length : Int) := by omega
      have HR : Hid (fbad (deepBad ns) ns.length 0 = none) := Lib.hid (by rw [HF.out, Nat.sub_self]; rfl)
      go_wp2
      go_ret
      exact FirstIs.nil HR.out HW.out
/-- Block b is the set of the names that seen tells. -/
def SeenAt (w : World) (b n : Nat) (seen : ByteArray → Bool) : Prop := ∃ D : DataW Unit, w.ownsMap Try.prog 9 (plainElem Try.prog 4) b n D ∧ Maps.IsMap D ∧ ∀ s : ByteArray, D.atKey (.string s.data.toList) (.lit (.bool false)) = .lit (.bool (seen s))
theorem law_str : Keyed Try.prog 9 := string_keyed Try.underlying9
theorem zero_bool (w : World) : (zeroValue 4).run Try.prog w = .ok (.bool false) w := by kernel_rfl
theorem plainElem_bool_inv {v : Value} {z : DataW Unit × List MemPlace} (h : plainElem Try.prog 4 v = some z) : ∃ x, v = .bool x ∧ z = (.lit (.bool x), []) := by
  unfold plainElem at h
  rw [Try.underlying4] at h
  cases v <;> simp at h
  exact ⟨_, rfl, h.symm⟩
theorem SeenAt.made (w : World) : SeenAt (w.alloc (.map #[] 0)) w.heap.size 0 (fun _ => false) :=
  ⟨.map [], World.ownsMap_made _ _ _ _, Maps.isMap_empty, fun _ => rfl⟩
theorem SeenAt.alloc {w : World} {b n : Nat} {seen : ByteArray → Bool} (h : SeenAt w b n seen) (o : Obj) : SeenAt (w.alloc o) b n seen := by
  obtain ⟨D, h1, h2, h3⟩ := h
  exact ⟨D, h1.alloc o, h2, h3⟩
theorem SeenAt.look {w : World} {b n : Nat} {seen : ByteArray → Bool} (h : SeenAt w b n seen) (s : ByteArray) (hs : s.size ≤ maxLen) : (Instr.lookup 65 (.map (some b)) (.string s) false).run Try.prog w = .ok (.bool (seen s)) w := by
  obtain ⟨D, h1, h2, h3⟩ := h
  obtain ⟨v, ps, hrun, hv⟩ := h1.lookup law_str Try.underlying65 (zero_bool w) (plainElem_bool Try.underlying4 false) (WideMaps.keyOf_string_mk Try.underlying9 hs)
  obtain ⟨x, rfl, hx⟩ := plainElem_bool_inv hv
  rw [h3 s] at hx
  injection hx with h4 h5
  injection h4 with h6
  injection h6 with h7
  rw [hrun, h7]
theorem SeenAt.put {w : World} {D : DataW Unit} {b n : Nat} {seen seen' : ByteArray → Bool} (s : ByteArray) (h1 : w.ownsMap Try.prog 9 (plainElem Try.prog 4) b n (D.put (.string s.data.toList) (.lit (.bool true)))) (h2 : Maps.IsMap D) (h3 : ∀ s : ByteArray, D.atKey (.string s.data.toList) (.lit (.bool false)) = .lit (.bool (seen s)))
    (h : ∀ x, seen' x = (seen x || decide (s = x))) : SeenAt w b n seen' := by
  refine ⟨_, h1, h2.put _ _, fun x => ?_⟩
  rw [h x]
  by_cases e : s = x
  · subst e
    rw [Maps.atKey_put_same h2 (show WideAt.IsKeyLit (.string _) from trivial)]; simp
  · rw [Maps.atKey_put_other (by intro he; injection he with he; exact e (ByteArray.ext (Array.ext' he)).symm), h3 x, decide_eq_false e, Bool.or_false]
def seenL (rs : List PR) (k : Nat) (s : ByteArray) : Bool := (rs.take k).any (fun x => decide (x.name = s))
theorem seenL_succ {rs : List PR} {k : Nat} {r : PR} (h : rs[k]? = some r) (s : ByteArray) : seenL rs (k + 1) s = (seenL rs k s || decide (r.name = s)) := by
  unfold seenL; rw [take_snoc' rs k r h, List.any_append]; simp
theorem nameBad_is {rs : List PR} {k : Nat} {r : PR} (h : rs[k]? = some r) : nameBad rs k = (seenL rs k r.name || !nameB (bts r.name)) := by
  unfold nameBad; rw [h]; rfl
theorem cnames_nil (ra na : Option Addr) (rc nn nc : Nat) (w : World) :
    Calls Try.prog 30 #[.agg #[.slice ra 0 rc, .slice na nn nc]] w (PartErr sRules 10 0 w) := by
  have HB := Lib.hid (one_new w)
  go_enter Try.func30, Try.ntmps30
  go_wp2_with (first
    | (go_at_call 39; (with_reducible refine (gNew_any _ _ _).mono ?_); rintro e w2 ⟨rfl, rfl⟩)
    | (go_at_call 38; (with_reducible refine (gWithin_any _ _ _ _).mono ?_); rintro e w2 ⟨rfl, rfl⟩))
  go_ret
  exact PartErr.mk (by simp) (HB.out _)
set_option maxHeartbeats 4000000 in
set_option maxRecDepth 100000 in
theorem cnames_any (rv : Value) (na : Option Addr) (nn nc : Nat) (rs : List PR) (w : World) (hR : RulesIn w rv rs) (h0 : 0 < rs.length) (hs : rs.length ≤ 1000000) (hnm : ∀ r, r ∈ rs → r.name.size ≤ 2000000) :
    Calls Try.prog 30 #[.agg #[rv, .slice na nn nc]] w (FirstIs (fbad (nameBad rs) rs.length 0) sRules 10 w) := by
  have HM := Lib.hid hnm
  have HB0 := Lib.hid (two_new w)
  have HS0 : Hid (∀ o, SeenAt ((w.alloc o).alloc (.map #[] 0)) (w.heap.size + 1) 0 (seenL rs 0)) := Lib.hid fun o => by
    have := SeenAt.made (w.alloc o)
    rw [World.size_alloc] at this
    exact this
  obtain ⟨-, a, ca, rfl, ha⟩ := hR
  have q0 : ((rs.length : Int) == 0) = false := ibeq_no (by omega)
  have hmm := @run_makeMap Try.prog
  clear hnm
  rcases ha with h1 | ⟨rb, ro, rfl, hca⟩
  · rw [h1] at h0; exact absurd h0 (Nat.not_lt_zero _)
  go_enter Try.func30, Try.ntmps30
  go_wp2
  go_loopw [16] (fun c wr => ∃ k : Nat, k ≤ rs.length ∧ c = .int .i64 k ∧ Below w.heap.size w wr ∧ SeenAt wr (w.heap.size + 1) k (seenL rs k) ∧ fbad (nameBad rs) rs.length 0 = fbad (nameBad rs) (rs.length - k) k) (fun c _ => rs.length - (intOf c).toNat)
  case atStart => exact ⟨0, Nat.zero_le _, rfl, HB0.out _ _, HS0.out _, rfl⟩
  case round =>
    obtain ⟨k, hk, rfl, hbw, hse, hf⟩ := hrel
    have HF := Lib.hid hf
    clear hf
    by_cases hlt : k < rs.length
    · obtain ⟨r, hr⟩ : ∃ r, rs[k]? = some r := ⟨_, List.getElem?_eq_getElem hlt⟩
      obtain ⟨c0, c1⟩ := (hca k r hr).kept hbw (Nat.le_refl _)
      have lb := lt_of_cell c0
      have k1 : (k : Int) < (rs.length : Int) := by omega
      have hsub : rs.length - k = (rs.length - (k + 1)) + 1 := by omega
      rw [hsub] at HF
      have hnb := nameBad_is hr
      have hss := seenL_succ hr
      have hsz := HM.out r (List.mem_of_getElem? hr)
      have hlk : ∀ o, (Instr.lookup 65 (.map (some (w.heap.size + 1))) (.string r.name) false).run Try.prog (wr.alloc o) = .ok (.bool (seenL rs k r.name)) (wr.alloc o) := fun o => (hse.alloc o).look r.name (by unfold maxLen; omega)
      have HP := Lib.hid (fun w => pname_any r.name w hsz)
      have HW := Lib.hid hbw
      have HSE := Lib.hid hse
      have hszw := hbw.size
      have HSS := Lib.hid hss
      clear hsub hca hr hbw hse hss
      cases hsn : seenL rs k r.name with
      | true =>
        rw [hsn] at hlk hnb
        have HR := Lib.hid (HF.out.trans (fbad_yes hnb))
        clear hnb hsn
        go_wp2_with (first
          | (go_at_call 39; (with_reducible refine (gNew_any _ _ _).mono ?_); rintro e w2 ⟨rfl, rfl⟩)
          | (go_at_call 38; (with_reducible refine (gWithin_any _ _ _ _).mono ?_); rintro e w2 ⟨rfl, rfl⟩))
        go_ret
        exact FirstIs.hit HR.out (by simp) (HW.out.alloc hszw _)
      | false =>
        rw [hsn, Bool.false_or] at hnb
        rw [hsn] at hlk
        cases hnm : nameB (bts r.name) with
        | false =>
          rw [hnm] at hnb HP
          have HR := Lib.hid (HF.out.trans (fbad_yes hnb))
          clear hnb hsn hnm
          go_wp2_with (first
            | (go_at_call 40; (with_reducible refine (HP.out _).mono ?_); rintro e w2 ⟨rfl, hw⟩; obtain rfl := hw.symm; clear hw)
            | (go_at_call 39; (with_reducible refine (gNew_any _ _ _).mono ?_); rintro e w2 ⟨rfl, rfl⟩)
            | (go_at_call 38; (with_reducible refine (gWithin_any _ _ _ _).mono ?_); rintro e w2 ⟨rfl, rfl⟩))
          go_ret
          exact FirstIs.hit HR.out (by simp) (HW.out.alloc hszw _)
        | true =>
          rw [hnm] at hnb HP
          have HR := Lib.hid (HF.out.trans (fbad_no hnb))
          obtain ⟨D, hown, hmap, hat⟩ := HSE.out
          have hkey := WideMaps.keyOf_string_mk (P := Try.prog) Try.underlying9 (s := r.name) (by unfold maxLen; omega)
          have HAT := Lib.hid hat
          have HKEY := Lib.hid hkey
          have HMAP := Lib.hid hmap
          clear hnb hsn hnm hat hkey hmap
          go_wp2_with (first
            | (go_at_call 40; (with_reducible refine (HP.out _).mono ?_); rintro e w2 ⟨rfl, hw⟩; obtain rfl := hw.symm; clear hw)
            | (at_mapUpdate; refine wpList_mapUpdate_own _ rfl _ _ _ 65 rfl 9 4 law_str Try.underlying65 _ (w.heap.size + 1) k D rfl (hown.alloc _) (by unfold maxLen; omega) _ _ _ rfl rfl HKEY.out _ [] (plainElem_bool Try.underlying4 true) ?_; intro w1 hown1 hgrow1))
          go_roundw
          case rel => exact ⟨k + 1, by omega, by go_num, (HW.out.alloc hszw _).grown hgrow1 (by simp; omega) (fun j e => by injection e with e; omega), SeenAt.put r.name hown1 HMAP.out HAT.out HSS.out, HR.out⟩
          case measure => simp [intOf]; omega
    · obtain rfl : k = rs.length := by omega
      have k1 : ¬ (rs.length : Int) < (rs.length : Int) := by omega
      have HR : Hid (fbad (nameBad rs) rs.length 0 = none) := Lib.hid (by rw [HF.out, Nat.sub_self]; rfl)
      have HW := Lib.hid hbw
      clear hbw hse
      go_wp2
      go_ret
      exact FirstIs.nil HR.out HW.out
end Go.Proofs.Ytbhejkjgebhpoaa
