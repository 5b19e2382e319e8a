/- The walk of the law BytesetAgain: it returns true for every set. -/
import Derived.Test.YtcfjclcbfhajcaaMakes
import Derived.Test.YtcfjclcbfhajcaaPairs
import Derived.Test.YtcfjclcbfhajcaaAggRule
import Derived.Test.YtcfjclcbfhajcaaRegionOn
import Derived.Test.YtcfjclcbfhajcaaAgainMath
import Derived.BigQuiet
import Derived.Deep.QuietTactic
namespace Go.Proofs.Ytcfjclcbfhajcaa
open Go.RowKit Go.Shelf
def aggS (f : Nat → Bool) : Value := .agg #[.int .u64 (setW f 0), .int .u64 (setW f 1), .int .u64 (setW f 2), .int .u64 (setW f 3)]
theorem exec_same {o : Oper} {a : Act} {w : World} {u : TypeId} {x y : Operand} (ho : o.op = .binOp .eql 24 x y u) (f : Nat → Bool) (hx : a.eval x = aggS f) (hy : a.eval y = aggS f) : (execOp a.eval o).run Try.prog w = .ok (.value (.bool true)) w := by
  have h := exec_agg (w := w) .eql 24 u x y ho _ _ hx hy gt_set _ (eql_set _ _ _ _ _ _ _ _ _)
  simpa using h
theorem setW_eq {f g : Nat → Bool} (h : ∀ j, j < 256 → f j = g j) : aggS f = aggS g := by
  unfold aggS
  rw [setW_congr' (k := 0) (by omega) h, setW_congr' (k := 1) (by omega) h, setW_congr' (k := 2) (by omega) h, setW_congr' (k := 3) (by omega) h]
/-- the pairs rs lie in block b -/
def RowsB (b : Nat) (rs : List (Nat × Nat)) (w : World) : Prop := ∀ i x, rs[i]? = some x → w.cell? ⟨b, i * 2, none⟩ = some (.int .u8 (x.1 : Int)) ∧ w.cell? ⟨b, i * 2 + 1, none⟩ = some (.int .u8 (x.2 : Int))
theorem RowsB.below {b : Nat} {rs : List (Nat × Nat)} {w w' : World} (h : RowsB b rs w) (hb : Below w.heap.size w w') : RowsB b rs w' := fun i x hi => by
  obtain ⟨h1, h2⟩ := h i x hi
  exact ⟨(hb.cell (p := ⟨b, i * 2, none⟩) (block_lt_of_cell h1 : b < _)).trans h1, (hb.cell (p := ⟨b, i * 2 + 1, none⟩) (block_lt_of_cell h2 : b < _)).trans h2⟩
theorem RowsB.setCell {b B j : Nat} {rs : List (Nat × Nat)} {w : World} {v : Value} (h : RowsB b rs w) (hne : B ≠ b) : RowsB b rs (w.setCell ⟨B, j, none⟩ v) := fun i x hi => by
  obtain ⟨h1, h2⟩ := h i x hi
  exact ⟨by rw [World.cell?_setCell_other (h := by intro e; injection e with e; exact hne e)]; exact h1, by rw [World.cell?_setCell_other (h := by intro e; injection e with e; exact hne e)]; exact h2⟩
theorem SetAt.setCell {f : Nat → Bool} {A B j : Nat} {w : World} {v : Value} (h : SetAt f A w) (hne : B ≠ A) : SetAt f A (w.setCell ⟨B, j, none⟩ v) := fun i hi =>
  ⟨by rw [World.cell?_setCell_other (h := by intro e; injection e with e; exact hne e)]; exact (h i hi).1, by rw [World.frozen?_setCell]; exact (h i hi).2⟩
/-- a whole set is stored into a block that held one -/
theorem SetAt.store {f g : Nat → Bool} {B : Nat} {w : World} (h : SetAt f B w) :
    SetAt g B ((((w.setCell ⟨B, 0, none⟩ (.int .u64 (setW g 0))).setCell ⟨B, 1, none⟩ (.int .u64 (setW g 1))).setCell ⟨B, 2, none⟩ (.int .u64 (setW g 2))).setCell ⟨B, 3, none⟩ (.int .u64 (setW g 3))) := by
  have hw : WAt (setW f) B w := h
  have h4 := (((hw.put (k := 0) (v := setW g 0)).put (k := 1) (v := setW g 1)).put (k := 2) (v := setW g 2)).put (k := 3) (v := setW g 3)
  refine h4.congr fun j hj => ?_
  have : j = 0 ∨ j = 1 ∨ j = 2 ∨ j = 3 := by omega
  rcases this with rfl | rfl | rfl | rfl <;> rfl
theorem runs_rows (f : Nat → Bool) (w : World) : Calls Try.prog 14 #[aggS f] w fun e w' => ∃ a cap, e = .returned (.slice a (runsTo f 256).length cap) ∧ (runsTo f 256 = [] ∨ ∃ b, a = some ⟨b, 0, none⟩ ∧ w.heap.size ≤ b ∧ RowsB b (runsTo f 256) w') ∧ Below w.heap.size w w' := by
  refine (runs_any f w).mono ?_
  rintro e w' ⟨v, rfl, hr, hb⟩
  have h := PairsAt.of_owns hr
  obtain ⟨a, cap, rfl, h⟩ := h
  refine ⟨a, cap, rfl, h.imp id ?_, hb⟩
  rintro ⟨b, rfl, hc⟩
  exact ⟨b, rfl, (hr.lt b rfl).1, hc⟩
/-- what the operations of 'u = Union(u, Range(r[i][0], r[i][1]))' give -/
def RV (cur nw rg : Nat → Bool) (v : Value) (b k : Nat) (x1 x2 : Nat) : Nat → Option Value
  | 0 => some (aggS cur)
  | 1 | 6 => some v
  | 2 | 7 => some (.int .i64 (k : Int))
  | 3 | 8 | 4 => some (.pointer (some ⟨b, k * 2, none⟩))
  | 9 => some (.pointer (some ⟨b, k * 2 + 1, none⟩))
  | 5 => some (.int .u8 (x1 : Int))
  | 10 => some (.int .u8 (x2 : Int))
  | 11 => some (aggS rg)
  | 12 => some (aggS nw)
  | _ => none
def RT (cur nw rg : Nat → Bool) (v : Value) (b k : Nat) (x1 x2 : Nat) (i : Nat) (u : Value) (_ : World) : Prop := ∀ z, RV cur nw rg v b k x1 x2 i = some z → u = z
theorem RT_val {cur nw rg : Nat → Bool} {v : Value} {b k x1 x2 i : Nat} {u : Value} {w : World} (h : RV cur nw rg v b k x1 x2 i = some u) : RT cur nw rg v b k x1 x2 i u w := fun _ e => by rw [h] at e; injection e
def anyW (_ _ : World) : Prop := True
theorem below_drewN (w : World) (n : Nat) : Below w.heap.size w (w.drewN n) := ⟨rfl, rfl, rfl, Nat.le_refl _, fun _ _ => rfl⟩
/-- what is known of the world while that statement runs: the union lies in its block behind operation 13 alone -/
def AgS (f cur nw : Nat → Bool) (U B b : Nat) (rs : List (Nat × Nat)) (n : Nat) (w : World) (L : Nat → Bool) (W : World) : Prop := SetAt (if L 13 then nw else cur) U W ∧ SetAt f B W ∧ RowsB b rs W ∧ Below n w W
theorem AgS.upd {f cur nw : Nat → Bool} {U B b : Nat} {rs : List (Nat × Nat)} {n : Nat} {w : World} {L : Nat → Bool} {W : World} (h : AgS f cur nw U B b rs n w L W) (i : Nat) (hi : 13 ≠ i) : AgS f cur nw U B b rs n w (fun k => if k = i then true else L k) W := by
  unfold AgS at h ⊢
  simp only [hi, if_false]
  exact h
theorem AgS.kept {f cur nw : Nat → Bool} {U B b : Nat} {rs : List (Nat × Nat)} {n : Nat} {w : World} {L : Nat → Bool} {W W' : World} (h : AgS f cur nw U B b rs n w L W) (hn : n ≤ W.heap.size) (hb : Below W.heap.size W W') : AgS f cur nw U B b rs n w L W' :=
  ⟨h.1.kept hb, h.2.1.kept hb, h.2.2.1.below hb, h.2.2.2.trans (hb.mono hn)⟩
theorem AgS.cur {f cur nw : Nat → Bool} {U B b : Nat} {rs : List (Nat × Nat)} {n : Nat} {w : World} {L : Nat → Bool} {W : World} (h : AgS f cur nw U B b rs n w L W) (hL : L 13 = false) : SetAt cur U W := by
  have := h.1; rw [hL] at this; simpa using this
/-- what the operations of the test 'i > 0 && ..' give, where i is 0 -/
def ZV : Nat → Option Value
  | 0 => some (.int .i64 0)
  | 1 | 2 | 18 => some (.bool false)
  | _ => some undef
/-- the same, where i is not 0 -/
def PV (v : Value) (b k x1 y2 : Nat) : Nat → Option Value
  | 0 | 4 | 10 => some (.int .i64 (k : Int))
  | 1 | 2 => some (.bool true)
  | 3 | 9 => some v
  | 5 | 6 => some (.pointer (some ⟨b, k * 2, none⟩))
  | 7 => some (.int .u8 (x1 : Int))
  | 8 => some (.int .i64 (x1 : Int))
  | 11 => some (.int .i64 ((k : Int) - 1))
  | 12 => some (.pointer (some ⟨b, (k - 1) * 2, none⟩))
  | 13 => some (.pointer (some ⟨b, (k - 1) * 2 + 1, none⟩))
  | 14 => some (.int .u8 (y2 : Int))
  | 15 => some (.int .i64 (y2 : Int))
  | 16 => some (.int .i64 ((y2 : Int) + 1))
  | _ => some (.bool false)
def OT (V : Nat → Option Value) (i : Nat) (u : Value) (_ : World) : Prop := ∀ z, V i = some z → u = z
theorem OT_val {V : Nat → Option Value} {i : Nat} {u : Value} {w : World} (h : V i = some u) : OT V i u w := fun _ e => by rw [h] at e; injection e
/-- what the operations of the law's last test give; 5: the slice of bytes -/
def LV (f : Nat → Bool) (n1 n2 : Int) : Nat → Option Value
  | 0 | 1 | 4 | 6 | 7 | 11 | 13 | 14 | 18 | 20 => some (aggS f)
  | 12 | 21 => some (aggS fun i => !f i)
  | 5 => none
  | 19 => some (.int .i64 n1)
  | 22 => some (.int .i64 n2)
  | 23 => some (.int .i64 256)
  | _ => some (.bool true)
def LT (f : Nat → Bool) (n1 n2 : Int) (k : Nat) (v : Value) (w : World) : Prop :=
  (∀ u, LV f n1 n2 k = some u → v = u) ∧ (LV f n1 n2 k = none → RowAt w v (((memb f 256).map fun k : Nat => (k : Int)).map (Value.int .u8)))
theorem LT_mono (f : Nat → Bool) (n1 n2 : Int) (k : Nat) (v : Value) (w w' : World) (hb : Below w.heap.size w w') (h : LT f n1 n2 k v w) : LT f n1 n2 k v w' :=
  ⟨h.1, fun e => (h.2 e).below hb⟩
theorem LT_val {f : Nat → Bool} {n1 n2 : Int} {k : Nat} {u : Value} {w : World} (h : LV f n1 n2 k = some u) : LT f n1 n2 k u w :=
  ⟨(fun _ e => by rw [h] at e; injection e), (fun e => by rw [h] at e; cases e)⟩
theorem bytes_rows (f : Nat → Bool) (w : World) : Calls Try.prog 11 #[aggS f] w fun e w' => ∃ v, e = .returned v ∧ RowAt w' v (((memb f 256).map fun k : Nat => (k : Int)).map (Value.int .u8)) ∧ Below w.heap.size w w' := by
  refine (bytes_any f w).mono ?_
  rintro e w' ⟨v, rfl, hr, hb⟩
  have h := RowAt.of_owns hr (by rw [List.length_map])
  rw [List.map_map]
  exact ⟨v, rfl, h, hb⟩
theorem of_back (f : Nat → Bool) (v : Value) (w : World) (hv : RowAt w v (((memb f 256).map fun k : Nat => (k : Int)).map (Value.int .u8))) : Calls Try.prog 16 #[v] w fun e w' => e = .returned (aggS f) ∧ Below w.heap.size w w' := by
  have hml := memb_len f 256
  have h := of_any _ v w hv (fun x hx => by
    obtain ⟨k, hk, rfl⟩ := List.mem_map.1 hx
    have := memb_lt f 256 (Nat.le_refl _) k hk
    exact ⟨by omega, by omega⟩) (by rw [List.length_map]; omega)
  have e := setW_eq (f := lset ((memb f 256).map fun k : Nat => (k : Int))) (g := f) (fun j hj => lset_memb f j hj)
  unfold aggS at e ⊢
  rw [e] at h
  exact h
theorem not_not (f : Nat → Bool) (w : World) : Calls Try.prog 23 #[aggS fun i => !f i] w fun e w' => e = .returned (aggS f) ∧ Below w.heap.size w w' := by
  have h := not_any (fun i => !f i) w
  rw [show (fun i => !!f i) = f from by funext i; exact Bool.not_not _] at h
  exact h
set_option maxHeartbeats 4000000 in
set_option maxRecDepth 100000 in
theorem again_any (f : Nat → Bool) (w0 : World) : Calls Try.prog 6 #[.agg #[.int .u64 (setW f 0), .int .u64 (setW f 1), .int .u64 (setW f 2), .int .u64 (setW f 3)]] w0
    fun e w' => e = .returned (.bool true) ∧ Below w0.heap.size w0 w' := by
  obtain ⟨rs, hrs⟩ : ∃ rs, runsTo f 256 = rs := ⟨_, rfl⟩
  have hok := Lib.hid (runs_ok f 256 (Nat.le_refl _))
  have hmem := Lib.hid (runs_mem f 256 (Nat.le_refl _))
  have hlen := runs_len f 256
  have kr := Lib.hid (runs_rows f)
  rw [hrs] at hok hmem hlen kr
  clear hrs
  go_enter Try.func6, Try.ntmps6
  go_wp2_with fail
  obtain ⟨W0, hW0⟩ : ∃ W0, w0.alloc (.cells #[.int .u64 (setW f 0), .int .u64 (setW f 1), .int .u64 (setW f 2), .int .u64 (setW f 3)] 24) = W0 := ⟨_, rfl⟩
  have hB : Below w0.heap.size w0 W0 := by rw [← hW0]; exact (Below.refl _ w0).alloc (Nat.le_refl _) _
  have hf : SetAt f w0.heap.size W0 := by rw [← hW0]; exact SetAt.new rfl rfl rfl rfl rfl
  rw [hW0]
  clear hW0
  refine (awake_any W0).mono ?_
  rintro e w1 ⟨rfl, hb⟩
  replace hf := hf.kept hb
  replace hB := hB.trans (hb.mono hB.size)
  clear hb
  have cf := hf.conj
  have lf := hf.lt
  go_wp2_with fail
  clear cf
  obtain ⟨U, hU⟩ : ∃ U, w1.heap.size = U := ⟨_, rfl⟩
  obtain ⟨W1, hW1⟩ : ∃ W1, w1.alloc (.cells #[.int .u64 0, .int .u64 0, .int .u64 0, .int .u64 0] 24) = W1 := ⟨_, rfl⟩
  have hu : SetAt (fun _ => false) U W1 := by rw [← hW1]; exact SetAt.new hU.symm (setW_none _).symm (setW_none _).symm (setW_none _).symm (setW_none _).symm
  have hk1 : Below w1.heap.size w1 W1 := by rw [← hW1]; exact (Below.refl _ _).alloc (Nat.le_refl _) _
  replace hf := hf.kept hk1
  replace hB : Below w0.heap.size w0 W1 := hB.trans (hk1.mono hB.size)
  rw [hU] at lf
  have hUb : w0.heap.size ≤ U := by omega
  rw [hW1, hU]
  clear hW1 hU hk1
  refine (kr.out W1).mono ?_
  rintro e w2 ⟨a, cap, rfl, hr, hb⟩
  have hUlt := hu.lt
  replace hf := hf.kept hb
  replace hu := hu.kept hb
  replace hB := hB.trans (hb.mono hB.size)
  clear hb kr
  replace hr : rs = [] ∨ ∃ b, a = some ⟨b, 0, none⟩ ∧ U ≠ b ∧ RowsB b rs w2 := hr.imp id (by rintro ⟨b, e, h1, h2⟩; exact ⟨b, e, by omega, h2⟩)
  go_wp2_with fail
  go_loopw [5] (fun c wr => ∃ k : Nat, k ≤ rs.length ∧ c = .int .i64 k ∧ SetAt (fun j => inRuns (rs.take k) j) U wr ∧ SetAt f w0.heap.size wr ∧ (rs = [] ∨ ∃ b, a = some ⟨b, 0, none⟩ ∧ U ≠ b ∧ RowsB b rs wr) ∧ Below w0.heap.size w0 wr) (fun c _ => rs.length - (intOf c).toNat)
  case atStart => exact ⟨0, Nat.zero_le _, rfl, hu, hf, hr, hB⟩
  case round =>
    clear hr hu hf hB
    obtain ⟨k, hk, rfl, hu, hf, hr, hB⟩ := hrel
    by_cases hlt : k < rs.length
    · obtain ⟨x, hx⟩ : ∃ x, rs[k]? = some x := ⟨rs[k], by simp [hlt]⟩
      obtain ⟨b, rfl, hUb', hrow⟩ := hr.resolve_left (by rintro rfl; simp at hlt)
      obtain ⟨x1, x2⟩ := x
      have hxm := hmem.out _ (List.mem_of_getElem? hx)
      have hm1 : x1 < 256 := hxm.1
      have hm2 : x2 < 256 := hxm.2
      clear hxm
      obtain ⟨cur, hcur⟩ : ∃ g : Nat → Bool, g = fun j => inRuns (rs.take k) j := ⟨_, rfl⟩
      obtain ⟨nw, hnw⟩ : ∃ g : Nat → Bool, g = fun j => inRuns (rs.take (k + 1)) j := ⟨_, rfl⟩
      have hun := union_any cur (inR x1 (x2 + 1))
      rw [show (fun i => cur i || inR x1 (x2 + 1) i) = nw from by rw [hcur, hnw, take_snoc' rs k (x1, x2) hx]; exact (inRuns_snoc _ _ _).symm] at hun
      have hrg := fun w => range_any (x1 : Int) (x2 : Int) w (by omega) (by omega) (by omega) (by omega)
      rw [Int.toNat_natCast, Int.toNat_natCast] at hrg
      have KU := Lib.hid hun
      have KR := Lib.hid hrg
      have HX := Lib.hid hx
      rw [← hcur] at hu
      have HN := Lib.hid hnw
      clear hun hrg hcur hnw hx hr
      go_wp2_with fail
      refine wp_region_on (by kernel_rfl) [3, 4, 5] (RT cur nw (inR x1 (x2 + 1)) (.slice (some ⟨b, 0, none⟩) rs.length cap) b k x1 x2) anyW (AgS f cur nw U w0.heap.size b rs w0.heap.size w0) (by kernel_rfl) (by kernel_rfl) (by kernel_rfl) (by kernel_rfl) (fun _ _ _ _ _ h => h) ⟨hu.drew, hf.drew, hrow, hB.drew⟩ ?steps ?done
      case steps =>
        refine ⟨?_, ?_, ?_, ?_, ?_, ?_, ?_, ?_, ?_, ?_, ?_, ?_, ?_, ?_, trivial⟩
        · intro L a W hL hj hS hk hd
          have e13 : L 13 = false := hj 13 (by kernel_rfl)
          have p3 : a.eval (.tmp 3) = .pointer (some ⟨U, 0, none⟩) := hk 3 (by simp)
          obtain ⟨q0, q1, q2, q3⟩ := (hS.cur e13).conj
          clear hk hd hj
          refine pay_plain rfl ?_
          exact on_value (aggS cur) (by unfold aggS; generalize a.eval = ρ at *; simp [go_sem, p3, q0, q1, q2, q3]) (RT_val rfl) trivial (hS.upd 0 (by decide))
        · intro L a W hL hj hS hk hd
          have e13 : L 13 = false := hj 13 (by kernel_rfl)
          have p4 : a.eval (.tmp 4) = (.slice (some ⟨b, 0, none⟩) rs.length cap) := hk 4 (by simp)
          clear hk hd hj
          refine pay_plain rfl ?_
          exact on_value (.slice (some ⟨b, 0, none⟩) rs.length cap) (by generalize a.eval = ρ at *; simp [go_sem, p4]) (RT_val rfl) trivial (hS.upd 1 (by decide))
        · intro L a W hL hj hS hk hd
          have e13 : L 13 = false := hj 13 (by kernel_rfl)
          have p5 : a.eval (.tmp 5) = .int .i64 (k : Int) := hk 5 (by simp)
          clear hk hd hj
          refine pay_plain rfl ?_
          exact on_value (.int .i64 (k : Int)) (by generalize a.eval = ρ at *; simp [go_sem, p5]) (RT_val rfl) trivial (hS.upd 2 (by decide))
        · intro L a W hL hj hS hk hd
          have e13 : L 13 = false := hj 13 (by kernel_rfl)
          have h17 : a.eval (.tmp 17) = (.slice (some ⟨b, 0, none⟩) rs.length cap) := hd 1 17 (by kernel_rfl) _ rfl
          have h18 : a.eval (.tmp 18) = .int .i64 (k : Int) := hd 2 18 (by kernel_rfl) _ rfl
          clear hk hd hj
          refine pay_plain rfl ?_
          exact on_value (.pointer (some ⟨b, k * 2, none⟩)) (by generalize a.eval = ρ at *; simp [go_sem, h17, h18, hlt]) (RT_val rfl) trivial (hS.upd 3 (by decide))
        · intro L a W hL hj hS hk hd
          have e13 : L 13 = false := hj 13 (by kernel_rfl)
          have c0 : a.eval (.const (.int .i64 0)) = .int .i64 0 := rfl
          have h19 : a.eval (.tmp 19) = .pointer (some ⟨b, k * 2, none⟩) := hd 3 19 (by kernel_rfl) _ rfl
          clear hk hd hj
          refine pay_plain rfl ?_
          exact on_value (.pointer (some ⟨b, k * 2, none⟩)) (by generalize a.eval = ρ at *; simp [go_sem, h19, c0]) (RT_val rfl) trivial (hS.upd 4 (by decide))
        · intro L a W hL hj hS hk hd
          have e13 : L 13 = false := hj 13 (by kernel_rfl)
          have h20 : a.eval (.tmp 20) = .pointer (some ⟨b, k * 2, none⟩) := hd 4 20 (by kernel_rfl) _ rfl
          obtain ⟨q1, q2⟩ := hS.2.2.1 k (x1, x2) HX.out
          dsimp only at q1 q2
          clear hk hd hj
          refine pay_plain rfl ?_
          exact on_value (.int .u8 (x1 : Int)) (by generalize a.eval = ρ at *; simp [go_sem, h20, q1]) (RT_val rfl) trivial (hS.upd 5 (by decide))
        · intro L a W hL hj hS hk hd
          have e13 : L 13 = false := hj 13 (by kernel_rfl)
          have p4 : a.eval (.tmp 4) = (.slice (some ⟨b, 0, none⟩) rs.length cap) := hk 4 (by simp)
          clear hk hd hj
          refine pay_plain rfl ?_
          exact on_value (.slice (some ⟨b, 0, none⟩) rs.length cap) (by generalize a.eval = ρ at *; simp [go_sem, p4]) (RT_val rfl) trivial (hS.upd 6 (by decide))
        · intro L a W hL hj hS hk hd
          have e13 : L 13 = false := hj 13 (by kernel_rfl)
          have p5 : a.eval (.tmp 5) = .int .i64 (k : Int) := hk 5 (by simp)
          clear hk hd hj
          refine pay_plain rfl ?_
          exact on_value (.int .i64 (k : Int)) (by generalize a.eval = ρ at *; simp [go_sem, p5]) (RT_val rfl) trivial (hS.upd 7 (by decide))
        · intro L a W hL hj hS hk hd
          have e13 : L 13 = false := hj 13 (by kernel_rfl)
          have h22 : a.eval (.tmp 22) = (.slice (some ⟨b, 0, none⟩) rs.length cap) := hd 6 22 (by kernel_rfl) _ rfl
          have h23 : a.eval (.tmp 23) = .int .i64 (k : Int) := hd 7 23 (by kernel_rfl) _ rfl
          clear hk hd hj
          refine pay_plain rfl ?_
          exact on_value (.pointer (some ⟨b, k * 2, none⟩)) (by generalize a.eval = ρ at *; simp [go_sem, h22, h23, hlt]) (RT_val rfl) trivial (hS.upd 8 (by decide))
        · intro L a W hL hj hS hk hd
          have e13 : L 13 = false := hj 13 (by kernel_rfl)
          have c1 : a.eval (.const (.int .i64 1)) = .int .i64 1 := rfl
          have h24 : a.eval (.tmp 24) = .pointer (some ⟨b, k * 2, none⟩) := hd 8 24 (by kernel_rfl) _ rfl
          clear hk hd hj
          refine pay_plain rfl ?_
          exact on_value (.pointer (some ⟨b, k * 2 + 1, none⟩)) (by generalize a.eval = ρ at *; simp [go_sem, h24, c1]) (RT_val rfl) trivial (hS.upd 9 (by decide))
        · intro L a W hL hj hS hk hd
          have e13 : L 13 = false := hj 13 (by kernel_rfl)
          have h25 : a.eval (.tmp 25) = .pointer (some ⟨b, k * 2 + 1, none⟩) := hd 9 25 (by kernel_rfl) _ rfl
          obtain ⟨q1, q2⟩ := hS.2.2.1 k (x1, x2) HX.out
          dsimp only at q1 q2
          clear hk hd hj
          refine pay_plain rfl ?_
          exact on_value (.int .u8 (x2 : Int)) (by generalize a.eval = ρ at *; simp [go_sem, h25, q2]) (RT_val rfl) trivial (hS.upd 10 (by decide))
        · intro L a W hL hj hS hk hd
          have e13 : L 13 = false := hj 13 (by kernel_rfl)
          have h21 : a.eval (.tmp 21) = .int .u8 (x1 : Int) := hd 5 21 (by kernel_rfl) _ rfl
          have h26 : a.eval (.tmp 26) = .int .u8 (x2 : Int) := hd 10 26 (by kernel_rfl) _ rfl
          clear hk hd hj
          refine pay_plain rfl ?_
          have hF : a.eval (.func 18) = .func (.func 18) #[] #[] := rfl
          refine on_call 18 #[.int .u8 (x1 : Int), .int .u8 (x2 : Int)] (by generalize a.eval = ρ at *; simp [go_sem, hF, h21, h26]) ((KR.out W).mono ?_)
          rintro e w' ⟨rfl, hb⟩
          exact ⟨_, rfl, RT_val rfl, trivial, ((hS.kept hS.2.2.2.size hb).upd 11 (by decide))⟩
        · intro L a W hL hj hS hk hd
          have e13 : L 13 = false := hj 13 (by kernel_rfl)
          have h16 : a.eval (.tmp 16) = aggS cur := hd 0 16 (by kernel_rfl) _ rfl
          have h27 : a.eval (.tmp 27) = aggS (inR x1 (x2 + 1)) := hd 11 27 (by kernel_rfl) _ rfl
          clear hk hd hj
          refine pay_plain rfl ?_
          have hF : a.eval (.func 21) = .func (.func 21) #[] #[] := rfl
          refine on_call 21 #[aggS cur, aggS (inR x1 (x2 + 1))] (by generalize a.eval = ρ at *; simp [go_sem, hF, h16, h27]) ((KU.out W).mono ?_)
          rintro e w' ⟨rfl, hb⟩
          exact ⟨_, rfl, RT_val rfl, trivial, ((hS.kept hS.2.2.2.size hb).upd 12 (by decide))⟩
        · intro L a W hL hj hS hk hd
          have p3 : a.eval (.tmp 3) = .pointer (some ⟨U, 0, none⟩) := hk 3 (by simp)
          have h28 : a.eval (.tmp 28) = aggS nw := hd 12 28 (by kernel_rfl) _ rfl
          have hcu := hS.cur hL
          obtain ⟨q0, q1, q2, q3⟩ := hcu.conj
          obtain ⟨g0, g1, g2, g3⟩ := hcu.four.2
          have hst : (execOp a.eval { dst := none, op := Op.store 24 (.tmp 3) (.tmp 28), type := 0, pos := "", after := #[], guard := none }).run Try.prog W = .ok .skip ((((W.setCell ⟨U, 0, none⟩ (.int .u64 (setW nw 0))).setCell ⟨U, 1, none⟩ (.int .u64 (setW nw 1))).setCell ⟨U, 2, none⟩ (.int .u64 (setW nw 2))).setCell ⟨U, 3, none⟩ (.int .u64 (setW nw 3))) := by
            unfold aggS at h28
            clear hk hd hj
            generalize a.eval = ρ at *
            simp [go_sem, p3, h28, q0, q1, q2, q3, g0, g1, g2, g3]
          clear hk hd hj
          refine pay_plain rfl ?_
          refine on_skip hst (fun _ e => by cases e) trivial ?_
          have hne : U ≠ w0.heap.size := by omega
          exact ⟨by simp only [if_true]; exact hcu.store, (((hS.2.1.setCell hne).setCell hne).setCell hne).setCell hne, (((hS.2.2.1.setCell hUb').setCell hUb').setCell hUb').setCell hUb', (((hS.2.2.2.setCell hUb _).setCell hUb _).setCell hUb _).setCell hUb _⟩
      case done =>
        intro vals w3 hv hS
        obtain ⟨L, hL, hS⟩ := hS
        unfold AgS at hS
        rw [hL 13 (by simp)] at hS
        simp only [if_true] at hS
        simp only [fill, if_true, Act.put, List.setIfInBounds_toArray, List.set_cons_zero, List.set_cons_succ]
        clear hv KU KR hu hf hrow hB
        obtain ⟨hu, hf, hrow, hB⟩ := hS
        go_wp2_with fail
        have hnext : ∀ (W : World), SetAt nw U W → SetAt (fun j => inRuns (rs.take (k + 1)) j) U W := fun W h => by rw [HN.out] at h; exact h
        by_cases hk0 : k = 0
        · subst hk0
          refine wp_region_inv (by kernel_rfl) [4, 5] (OT ZV) (fun W => SetAt nw U W ∧ SetAt f w0.heap.size W ∧ RowsB b rs W ∧ Below w0.heap.size w0 W) (by kernel_rfl) (by kernel_rfl) (by kernel_rfl) (by kernel_rfl) (fun _ _ _ _ _ h => h) ⟨hu.drew, hf.drew, hrow, hB.drew⟩ ?steps ?done
          case steps =>
            refine ⟨?_, ?_, ?_, ?_, ?_, ?_, ?_, ?_, ?_, ?_, ?_, ?_, ?_, ?_, ?_, ?_, ?_, ?_, ?_, trivial⟩
            · intro a W hS hk hd
              have p5 : a.eval (.tmp 5) = .int .i64 0 := hk 5 (by simp)
              clear hk hd
              refine pay_plain rfl ?_
              exact step_value (.int .i64 0) (by generalize a.eval = ρ at *; simp [go_sem, p5]) (OT_val rfl) hS
            · intro a W hS hk hd
              have h29 : a.eval (.tmp 29) = .int .i64 0 := hd 0 29 (by kernel_rfl) _ rfl
              have c0 : a.eval (.const (.int .i64 0)) = (.int .i64 0) := rfl
              clear hk hd
              refine pay_plain rfl ?_
              exact step_value (.bool false) (by generalize a.eval = ρ at *; simp [go_sem, h29, c0]) (OT_val rfl) hS
            · intro a W hS hk hd
              have h30 : a.eval (.tmp 30) = .bool false := hd 1 30 (by kernel_rfl) _ rfl
              clear hk hd
              refine pay_plain rfl ?_
              exact step_value (.bool false) (by generalize a.eval = ρ at *; simp [go_sem, h30]) (OT_val rfl) hS
            · intro a W hS hk hd
              have h31 : a.eval (.tmp 31) = .bool false := hd 2 31 (by kernel_rfl) _ rfl
              clear hk hd
              exact pay_skip rfl rfl h31 (by decide) (OT_val rfl)
            · intro a W hS hk hd
              have h31 : a.eval (.tmp 31) = .bool false := hd 2 31 (by kernel_rfl) _ rfl
              clear hk hd
              exact pay_skip rfl rfl h31 (by decide) (OT_val rfl)
            · intro a W hS hk hd
              have h31 : a.eval (.tmp 31) = .bool false := hd 2 31 (by kernel_rfl) _ rfl
              clear hk hd
              exact pay_skip rfl rfl h31 (by decide) (OT_val rfl)
            · intro a W hS hk hd
              have h31 : a.eval (.tmp 31) = .bool false := hd 2 31 (by kernel_rfl) _ rfl
              clear hk hd
              exact pay_skip rfl rfl h31 (by decide) (OT_val rfl)
            · intro a W hS hk hd
              have h31 : a.eval (.tmp 31) = .bool false := hd 2 31 (by kernel_rfl) _ rfl
              clear hk hd
              exact pay_skip rfl rfl h31 (by decide) (OT_val rfl)
            · intro a W hS hk hd
              have h31 : a.eval (.tmp 31) = .bool false := hd 2 31 (by kernel_rfl) _ rfl
              clear hk hd
              exact pay_skip rfl rfl h31 (by decide) (OT_val rfl)
            · intro a W hS hk hd
              have h31 : a.eval (.tmp 31) = .bool false := hd 2 31 (by kernel_rfl) _ rfl
              clear hk hd
              exact pay_skip rfl rfl h31 (by decide) (OT_val rfl)
            · intro a W hS hk hd
              have h31 : a.eval (.tmp 31) = .bool false := hd 2 31 (by kernel_rfl) _ rfl
              clear hk hd
              exact pay_skip rfl rfl h31 (by decide) (OT_val rfl)
            · intro a W hS hk hd
              have h31 : a.eval (.tmp 31) = .bool false := hd 2 31 (by kernel_rfl) _ rfl
              clear hk hd
              exact pay_skip rfl rfl h31 (by decide) (OT_val rfl)
            · intro a W hS hk hd
              have h31 : a.eval (.tmp 31) = .bool false := hd 2 31 (by kernel_rfl) _ rfl
              clear hk hd
              exact pay_skip rfl rfl h31 (by decide) (OT_val rfl)
            · intro a W hS hk hd
              have h31 : a.eval (.tmp 31) = .bool false := hd 2 31 (by kernel_rfl) _ rfl
              clear hk hd
              exact pay_skip rfl rfl h31 (by decide) (OT_val rfl)
            · intro a W hS hk hd
              have h31 : a.eval (.tmp 31) = .bool false := hd 2 31 (by kernel_rfl) _ rfl
              clear hk hd
              exact pay_skip rfl rfl h31 (by decide) (OT_val rfl)
            · intro a W hS hk hd
              have h31 : a.eval (.tmp 31) = .bool false := hd 2 31 (by kernel_rfl) _ rfl
              clear hk hd
              exact pay_skip rfl rfl h31 (by decide) (OT_val rfl)
            · intro a W hS hk hd
              have h31 : a.eval (.tmp 31) = .bool false := hd 2 31 (by kernel_rfl) _ rfl
              clear hk hd
              exact pay_skip rfl rfl h31 (by decide) (OT_val rfl)
            · intro a W hS hk hd
              have h31 : a.eval (.tmp 31) = .bool false := hd 2 31 (by kernel_rfl) _ rfl
              clear hk hd
              exact pay_skip rfl rfl h31 (by decide) (OT_val rfl)
            · intro a W hS hk hd
              have cF : a.eval (.const (.bool false)) = .bool false := rfl
              have h31 : a.eval (.tmp 31) = .bool false := hd 2 31 (by kernel_rfl) _ rfl
              clear hk hd
              refine pay_plain rfl ?_
              exact step_value (.bool false) (by generalize a.eval = ρ at *; simp [go_sem, h31, cF]) (OT_val rfl) hS
          case done =>
            intro vals w4 hv hS
            have hlast : vals 18 = .bool false := hv 18 (by simp) _ rfl
            simp only [fill, if_true, Act.put, List.setIfInBounds_toArray, List.set_cons_zero, List.set_cons_succ]
            rw [hlast]
            clear hv hlast hu hf hrow hB
            obtain ⟨hu, hf, hrow, hB⟩ := hS
            go_wp2_with fail
            exact ⟨⟨1, by omega, by go_num, hnext _ hu, hf, .inr ⟨b, rfl, hUb', hrow⟩, hB⟩, by simp [intOf]; omega⟩
        · obtain ⟨y, hy⟩ : ∃ y, rs[k - 1]? = some y := ⟨rs[k - 1], by simp⟩
          have hgap := hok.out.2.2 (k - 1) y (x1, x2) hy (by rw [show k - 1 + 1 = k from by omega]; exact HX.out)
          obtain ⟨y1, y2⟩ := y
          have hym := hmem.out _ (List.mem_of_getElem? hy)
          have hy2 : y2 < 256 := hym.2
          dsimp only at hgap
          have hposN : 0 < k := by omega
          have v1 : IntKind.i64.wrap (x1 : Int) = x1 := IntWalk.i64_in _ (by omega)
          have v2 : IntKind.i64.wrap (y2 : Int) = y2 := IntWalk.i64_in _ (by omega)
          have v3 : IntKind.i64.wrap ((y2 : Int) + 1) = (y2 : Int) + 1 := IntWalk.i64_in _ (by omega)
          have v4 : IntKind.i64.wrap ((k : Int) - 1) = (k : Int) - 1 := IntWalk.i64_in _ (by omega)
          have hle : (y2 : Int) + 1 < (x1 : Int) := by omega
          have e1 : ((k : Int) - 1).toNat = k - 1 := by omega
          have hpred : (k : Int) - 1 < (rs.length : Int) := by omega
          have hpred0 : (1 : Int) ≤ (k : Int) := by omega
          have HY := Lib.hid hy
          clear hym hy hk0 hgap
          refine wp_region_inv (by kernel_rfl) [4, 5] (OT (PV (.slice (some ⟨b, 0, none⟩) rs.length cap) b k x1 y2)) (fun W => SetAt nw U W ∧ SetAt f w0.heap.size W ∧ RowsB b rs W ∧ Below w0.heap.size w0 W) (by kernel_rfl) (by kernel_rfl) (by kernel_rfl) (by kernel_rfl) (fun _ _ _ _ _ h => h) ⟨hu.drew, hf.drew, hrow, hB.drew⟩ ?steps ?done
          case steps =>
            refine ⟨?_, ?_, ?_, ?_, ?_, ?_, ?_, ?_, ?_, ?_, ?_, ?_, ?_, ?_, ?_, ?_, ?_, ?_, ?_, trivial⟩
            · intro a W hS hk hd
              have p5 : a.eval (.tmp 5) = .int .i64 (k : Int) := hk 5 (by simp)
              clear hk hd
              refine pay_plain rfl ?_
              exact step_value (.int .i64 (k : Int)) (by generalize a.eval = ρ at *; simp [go_sem, p5]) (OT_val rfl) hS
            · intro a W hS hk hd
              have h29 : a.eval (.tmp 29) = .int .i64 (k : Int) := hd 0 29 (by kernel_rfl) _ rfl
              have c0 : a.eval (.const (.int .i64 0)) = (.int .i64 0) := rfl
              clear hk hd
              refine pay_plain rfl ?_
              exact step_value (.bool true) (by generalize a.eval = ρ at *; simp [go_sem, h29, c0, hposN]) (OT_val rfl) hS
            · intro a W hS hk hd
              have h30 : a.eval (.tmp 30) = .bool true := hd 1 30 (by kernel_rfl) _ rfl
              clear hk hd
              refine pay_plain rfl ?_
              exact step_value (.bool true) (by generalize a.eval = ρ at *; simp [go_sem, h30]) (OT_val rfl) hS
            · intro a W hS hk hd
              have h31 : a.eval (.tmp 31) = .bool true := hd 2 31 (by kernel_rfl) _ rfl
              have p4 : a.eval (.tmp 4) = (.slice (some ⟨b, 0, none⟩) rs.length cap) := hk 4 (by simp)
              clear hk hd
              refine pay_guard rfl rfl h31 ?_
              exact step_value (.slice (some ⟨b, 0, none⟩) rs.length cap) (by generalize a.eval = ρ at *; simp [go_sem, p4]) (OT_val rfl) hS
            · intro a W hS hk hd
              have h31 : a.eval (.tmp 31) = .bool true := hd 2 31 (by kernel_rfl) _ rfl
              have p5 : a.eval (.tmp 5) = .int .i64 (k : Int) := hk 5 (by simp)
              clear hk hd
              refine pay_guard rfl rfl h31 ?_
              exact step_value (.int .i64 (k : Int)) (by generalize a.eval = ρ at *; simp [go_sem, p5]) (OT_val rfl) hS
            · intro a W hS hk hd
              have h31 : a.eval (.tmp 31) = .bool true := hd 2 31 (by kernel_rfl) _ rfl
              have h32 : a.eval (.tmp 32) = (.slice (some ⟨b, 0, none⟩) rs.length cap) := hd 3 32 (by kernel_rfl) _ rfl
              have h33 : a.eval (.tmp 33) = .int .i64 (k : Int) := hd 4 33 (by kernel_rfl) _ rfl
              clear hk hd
              refine pay_guard rfl rfl h31 ?_
              exact step_value (.pointer (some ⟨b, k * 2, none⟩)) (by generalize a.eval = ρ at *; simp [go_sem, h32, h33, hlt]) (OT_val rfl) hS
            · intro a W hS hk hd
              have h31 : a.eval (.tmp 31) = .bool true := hd 2 31 (by kernel_rfl) _ rfl
              have h34 : a.eval (.tmp 34) = .pointer (some ⟨b, k * 2, none⟩) := hd 5 34 (by kernel_rfl) _ rfl
              have c0 : a.eval (.const (.int .i64 0)) = (.int .i64 0) := rfl
              clear hk hd
              refine pay_guard rfl rfl h31 ?_
              exact step_value (.pointer (some ⟨b, k * 2, none⟩)) (by generalize a.eval = ρ at *; simp [go_sem, h34, c0]) (OT_val rfl) hS
            · intro a W hS hk hd
              have h31 : a.eval (.tmp 31) = .bool true := hd 2 31 (by kernel_rfl) _ rfl
              have h35 : a.eval (.tmp 35) = .pointer (some ⟨b, k * 2, none⟩) := hd 6 35 (by kernel_rfl) _ rfl
              obtain ⟨q1, q2⟩ := hS.2.2.1 k (x1, x2) HX.out
              dsimp only at q1 q2
              clear hk hd
              refine pay_guard rfl rfl h31 ?_
              exact step_value (.int .u8 (x1 : Int)) (by generalize a.eval = ρ at *; simp [go_sem, h35, q1]) (OT_val rfl) hS
            · intro a W hS hk hd
              have h31 : a.eval (.tmp 31) = .bool true := hd 2 31 (by kernel_rfl) _ rfl
              have h36 : a.eval (.tmp 36) = .int .u8 (x1 : Int) := hd 7 36 (by kernel_rfl) _ rfl
              clear hk hd
              refine pay_guard rfl rfl h31 ?_
              exact step_value (.int .i64 (x1 : Int)) (by generalize a.eval = ρ at *; simp [go_sem, h36, v1]) (OT_val rfl) hS
            · intro a W hS hk hd
              have h31 : a.eval (.tmp 31) = .bool true := hd 2 31 (by kernel_rfl) _ rfl
              have p4 : a.eval (.tmp 4) = (.slice (some ⟨b, 0, none⟩) rs.length cap) := hk 4 (by simp)
              clear hk hd
              refine pay_guard rfl rfl h31 ?_
              exact step_value (.slice (some ⟨b, 0, none⟩) rs.length cap) (by generalize a.eval = ρ at *; simp [go_sem, p4]) (OT_val rfl) hS
            · intro a W hS hk hd
              have h31 : a.eval (.tmp 31) = .bool true := hd 2 31 (by kernel_rfl) _ rfl
              have p5 : a.eval (.tmp 5) = .int .i64 (k : Int) := hk 5 (by simp)
              clear hk hd
              refine pay_guard rfl rfl h31 ?_
              exact step_value (.int .i64 (k : Int)) (by generalize a.eval = ρ at *; simp [go_sem, p5]) (OT_val rfl) hS
            · intro a W hS hk hd
              have h31 : a.eval (.tmp 31) = .bool true := hd 2 31 (by kernel_rfl) _ rfl
              have h39 : a.eval (.tmp 39) = .int .i64 (k : Int) := hd 10 39 (by kernel_rfl) _ rfl
              have c1 : a.eval (.const (.int .i64 1)) = (.int .i64 1) := rfl
              clear hk hd
              refine pay_guard rfl rfl h31 ?_
              exact step_value (.int .i64 ((k : Int) - 1)) (by generalize a.eval = ρ at *; simp [go_sem, h39, c1, v4]) (OT_val rfl) hS
            · intro a W hS hk hd
              have h31 : a.eval (.tmp 31) = .bool true := hd 2 31 (by kernel_rfl) _ rfl
              have h38 : a.eval (.tmp 38) = (.slice (some ⟨b, 0, none⟩) rs.length cap) := hd 9 38 (by kernel_rfl) _ rfl
              have h40 : a.eval (.tmp 40) = .int .i64 ((k : Int) - 1) := hd 11 40 (by kernel_rfl) _ rfl
              clear hk hd
              refine pay_guard rfl rfl h31 ?_
              exact step_value (.pointer (some ⟨b, (k - 1) * 2, none⟩)) (by generalize a.eval = ρ at *; simp [go_sem, h38, h40, e1, hpred, hpred0]) (OT_val rfl) hS
            · intro a W hS hk hd
              have h31 : a.eval (.tmp 31) = .bool true := hd 2 31 (by kernel_rfl) _ rfl
              have h41 : a.eval (.tmp 41) = .pointer (some ⟨b, (k - 1) * 2, none⟩) := hd 12 41 (by kernel_rfl) _ rfl
              have c1 : a.eval (.const (.int .i64 1)) = (.int .i64 1) := rfl
              clear hk hd
              refine pay_guard rfl rfl h31 ?_
              exact step_value (.pointer (some ⟨b, (k - 1) * 2 + 1, none⟩)) (by generalize a.eval = ρ at *; simp [go_sem, h41, c1]) (OT_val rfl) hS
            · intro a W hS hk hd
              have h31 : a.eval (.tmp 31) = .bool true := hd 2 31 (by kernel_rfl) _ rfl
              have h42 : a.eval (.tmp 42) = .pointer (some ⟨b, (k - 1) * 2 + 1, none⟩) := hd 13 42 (by kernel_rfl) _ rfl
              obtain ⟨q3, q4⟩ := hS.2.2.1 (k - 1) (y1, y2) HY.out
              dsimp only at q3 q4
              clear hk hd
              refine pay_guard rfl rfl h31 ?_
              exact step_value (.int .u8 (y2 : Int)) (by generalize a.eval = ρ at *; simp [go_sem, h42, q4]) (OT_val rfl) hS
            · intro a W hS hk hd
              have h31 : a.eval (.tmp 31) = .bool true := hd 2 31 (by kernel_rfl) _ rfl
              have h43 : a.eval (.tmp 43) = .int .u8 (y2 : Int) := hd 14 43 (by kernel_rfl) _ rfl
              clear hk hd
              refine pay_guard rfl rfl h31 ?_
              exact step_value (.int .i64 (y2 : Int)) (by generalize a.eval = ρ at *; simp [go_sem, h43, v2]) (OT_val rfl) hS
            · intro a W hS hk hd
              have h31 : a.eval (.tmp 31) = .bool true := hd 2 31 (by kernel_rfl) _ rfl
              have h44 : a.eval (.tmp 44) = .int .i64 (y2 : Int) := hd 15 44 (by kernel_rfl) _ rfl
              have c1 : a.eval (.const (.int .i64 1)) = (.int .i64 1) := rfl
              clear hk hd
              refine pay_guard rfl rfl h31 ?_
              exact step_value (.int .i64 ((y2 : Int) + 1)) (by generalize a.eval = ρ at *; simp [go_sem, h44, c1, v3]) (OT_val rfl) hS
            · intro a W hS hk hd
              have h31 : a.eval (.tmp 31) = .bool true := hd 2 31 (by kernel_rfl) _ rfl
              have h37 : a.eval (.tmp 37) = .int .i64 (x1 : Int) := hd 8 37 (by kernel_rfl) _ rfl
              have h45 : a.eval (.tmp 45) = .int .i64 ((y2 : Int) + 1) := hd 16 45 (by kernel_rfl) _ rfl
              clear hk hd
              refine pay_guard rfl rfl h31 ?_
              exact step_value (.bool false) (by generalize a.eval = ρ at *; simp [go_sem, h37, h45, hle]) (OT_val rfl) hS
            · intro a W hS hk hd
              have h31 : a.eval (.tmp 31) = .bool true := hd 2 31 (by kernel_rfl) _ rfl
              have h46 : a.eval (.tmp 46) = .bool false := hd 17 46 (by kernel_rfl) _ rfl
              clear hk hd
              refine pay_plain rfl ?_
              exact step_value (.bool false) (by generalize a.eval = ρ at *; simp [go_sem, h31, h46]) (OT_val rfl) hS
          case done =>
            intro vals w4 hv hS
            have hlast : vals 18 = .bool false := hv 18 (by simp) _ rfl
            simp only [fill, if_true, Act.put, List.setIfInBounds_toArray, List.set_cons_zero, List.set_cons_succ]
            rw [hlast]
            clear hv hlast hu hf hrow hB
            obtain ⟨hu, hf, hrow, hB⟩ := hS
            go_wp2_with fail
            exact ⟨⟨k + 1, by omega, by go_num, hnext _ hu, hf, .inr ⟨b, rfl, hUb', hrow⟩, hB⟩, by simp [intOf]; omega⟩
    · have ek : k = rs.length := by omega
      subst ek
      rw [List.take_length] at hu
      replace hu : SetAt f U wr := hu.congr fun j hj => by
        have := hok.out.1 j
        rw [this]; simp [hj]
      clear hr hok hmem
      obtain ⟨n1, hn1⟩ : ∃ n : Int, ((cnt f 256 : Nat) : Int) = n := ⟨_, rfl⟩
      obtain ⟨n2, hn2⟩ : ∃ n : Int, ((cnt (fun i => !f i) 256 : Nat) : Int) = n := ⟨_, rfl⟩
      have hsum : n1 + n2 = 256 := by have := cnt_not f 256; omega
      have hwr : IntKind.i64.wrap 256 = 256 := rfl
      have k3 := Lib.hid (count_is f _ n1 rfl hn1)
      have k4 := Lib.hid (count_is (fun i => !f i) _ n2 rfl hn2)
      clear hn1 hn2
      have HS := Lib.hid hsum
      clear hsum hwr
      go_wp2_with fail
      have hsum := HS.out
      have hwr : IntKind.i64.wrap 256 = 256 := rfl
      refine wp_region_inv (by kernel_rfl) [1, 3] (LT f n1 n2) (fun W => SetAt f U W ∧ SetAt f w0.heap.size W ∧ Below w0.heap.size w0 W) (by kernel_rfl) (by kernel_rfl) (by kernel_rfl) (by kernel_rfl) (LT_mono f n1 n2) ⟨hu.drew, hf.drew, hB.drew⟩ ?steps ?done
      case steps =>
        refine ⟨?_, ?_, ?_, ?_, ?_, ?_, ?_, ?_, ?_, ?_, ?_, ?_, ?_, ?_, ?_, ?_, ?_, ?_, ?_, ?_, ?_, ?_, ?_, ?_, ?_, ?_, ?_, trivial⟩
        · intro a W hS hk hd
          have p : a.eval (.tmp 3) = .pointer (some ⟨U, 0, none⟩) := hk 3 (by simp)
          obtain ⟨q0, q1, q2, q3⟩ := hS.1.conj
          clear hk hd
          refine pay_plain rfl ?_
          exact step_value (aggS f) (by unfold aggS; generalize a.eval = ρ at *; simp [go_sem, p, q0, q1, q2, q3]) (LT_val rfl) hS
        · intro a W hS hk hd
          have p : a.eval (.tmp 1) = .pointer (some ⟨w0.heap.size, 0, none⟩) := hk 1 (by simp)
          obtain ⟨q0, q1, q2, q3⟩ := hS.2.1.conj
          clear hk hd
          refine pay_plain rfl ?_
          exact step_value (aggS f) (by unfold aggS; generalize a.eval = ρ at *; simp [go_sem, p, q0, q1, q2, q3]) (LT_val rfl) hS
        · intro a W hS hk hd
          have h48 : a.eval (.tmp 48) = aggS f := (hd 0 48 (by kernel_rfl)).1 _ rfl
          have h49 : a.eval (.tmp 49) = aggS f := (hd 1 49 (by kernel_rfl)).1 _ rfl
          clear hk hd
          refine pay_plain rfl ?_
          exact step_value (.bool true) (exec_same rfl f h48 h49) (LT_val rfl) hS
        · intro a W hS hk hd
          have h50 : a.eval (.tmp 50) = .bool true := (hd 2 50 (by kernel_rfl)).1 _ rfl
          clear hk hd
          refine pay_plain rfl ?_
          exact step_value (.bool true) (by generalize a.eval = ρ at *; simp [go_sem, h50]) (LT_val rfl) hS
        · intro a W hS hk hd
          have h51 : a.eval (.tmp 51) = .bool true := (hd 3 51 (by kernel_rfl)).1 _ rfl
          have p : a.eval (.tmp 1) = .pointer (some ⟨w0.heap.size, 0, none⟩) := hk 1 (by simp)
          obtain ⟨q0, q1, q2, q3⟩ := hS.2.1.conj
          clear hk hd
          refine pay_guard rfl rfl h51 ?_
          exact step_value (aggS f) (by unfold aggS; generalize a.eval = ρ at *; simp [go_sem, p, q0, q1, q2, q3]) (LT_val rfl) hS
        · intro a W hS hk hd
          have h51 : a.eval (.tmp 51) = .bool true := (hd 3 51 (by kernel_rfl)).1 _ rfl
          have h52 : a.eval (.tmp 52) = aggS f := (hd 4 52 (by kernel_rfl)).1 _ rfl
          have hF : a.eval (.func 11) = .func (.func 11) #[] #[] := rfl
          clear hk hd
          refine pay_guard rfl rfl h51 ?_
          refine step_call 11 #[aggS f] (by generalize a.eval = ρ at *; simp [go_sem, hF, h52]) ((bytes_rows f W).mono ?_)
          rintro e w' ⟨v, rfl, hr, hb⟩
          exact ⟨v, rfl, ⟨(fun _ e => by cases e), (fun _ => hr)⟩, hb, hS.1.kept hb, hS.2.1.kept hb, hS.2.2.trans (hb.mono hS.2.2.size)⟩
        · intro a W hS hk hd
          have h51 : a.eval (.tmp 51) = .bool true := (hd 3 51 (by kernel_rfl)).1 _ rfl
          have hr := (hd 5 53 (by kernel_rfl)).2 rfl
          obtain ⟨v, hv⟩ : ∃ v, a.eval (.tmp 53) = v := ⟨_, rfl⟩
          rw [hv] at hr
          have hF : a.eval (.func 16) = .func (.func 16) #[] #[] := rfl
          clear hk hd
          refine pay_guard rfl rfl h51 ?_
          refine step_call 16 #[v] (by generalize a.eval = ρ at *; simp [go_sem, hF, hv]) ((of_back f v W hr).mono ?_)
          rintro e w' ⟨rfl, hb⟩
          exact ⟨_, rfl, LT_val rfl, hb, hS.1.kept hb, hS.2.1.kept hb, hS.2.2.trans (hb.mono hS.2.2.size)⟩
        · intro a W hS hk hd
          have h51 : a.eval (.tmp 51) = .bool true := (hd 3 51 (by kernel_rfl)).1 _ rfl
          have p : a.eval (.tmp 1) = .pointer (some ⟨w0.heap.size, 0, none⟩) := hk 1 (by simp)
          obtain ⟨q0, q1, q2, q3⟩ := hS.2.1.conj
          clear hk hd
          refine pay_guard rfl rfl h51 ?_
          exact step_value (aggS f) (by unfold aggS; generalize a.eval = ρ at *; simp [go_sem, p, q0, q1, q2, q3]) (LT_val rfl) hS
        · intro a W hS hk hd
          have h51 : a.eval (.tmp 51) = .bool true := (hd 3 51 (by kernel_rfl)).1 _ rfl
          have h54 : a.eval (.tmp 54) = aggS f := (hd 6 54 (by kernel_rfl)).1 _ rfl
          have h55 : a.eval (.tmp 55) = aggS f := (hd 7 55 (by kernel_rfl)).1 _ rfl
          clear hk hd
          refine pay_guard rfl rfl h51 ?_
          exact step_value (.bool true) (exec_same rfl f h54 h55) (LT_val rfl) hS
        · intro a W hS hk hd
          have h51 : a.eval (.tmp 51) = .bool true := (hd 3 51 (by kernel_rfl)).1 _ rfl
          have h56 : a.eval (.tmp 56) = .bool true := (hd 8 56 (by kernel_rfl)).1 _ rfl
          clear hk hd
          refine pay_plain rfl ?_
          exact step_value (.bool true) (by generalize a.eval = ρ at *; simp [go_sem, h51, h56]) (LT_val rfl) hS
        · intro a W hS hk hd
          have h57 : a.eval (.tmp 57) = .bool true := (hd 9 57 (by kernel_rfl)).1 _ rfl
          clear hk hd
          refine pay_plain rfl ?_
          exact step_value (.bool true) (by generalize a.eval = ρ at *; simp [go_sem, h57]) (LT_val rfl) hS
        · intro a W hS hk hd
          have h58 : a.eval (.tmp 58) = .bool true := (hd 10 58 (by kernel_rfl)).1 _ rfl
          have p : a.eval (.tmp 1) = .pointer (some ⟨w0.heap.size, 0, none⟩) := hk 1 (by simp)
          obtain ⟨q0, q1, q2, q3⟩ := hS.2.1.conj
          clear hk hd
          refine pay_guard rfl rfl h58 ?_
          exact step_value (aggS f) (by unfold aggS; generalize a.eval = ρ at *; simp [go_sem, p, q0, q1, q2, q3]) (LT_val rfl) hS
        · intro a W hS hk hd
          have h58 : a.eval (.tmp 58) = .bool true := (hd 10 58 (by kernel_rfl)).1 _ rfl
          have h59 : a.eval (.tmp 59) = aggS f := (hd 11 59 (by kernel_rfl)).1 _ rfl
          have hF : a.eval (.func 23) = .func (.func 23) #[] #[] := rfl
          clear hk hd
          refine pay_guard rfl rfl h58 ?_
          refine step_call 23 #[aggS f] (by generalize a.eval = ρ at *; simp [go_sem, hF, h59]) ((not_any f W).mono ?_)
          rintro e w' ⟨rfl, hb⟩
          exact ⟨_, rfl, LT_val rfl, hb, hS.1.kept hb, hS.2.1.kept hb, hS.2.2.trans (hb.mono hS.2.2.size)⟩
        · intro a W hS hk hd
          have h58 : a.eval (.tmp 58) = .bool true := (hd 10 58 (by kernel_rfl)).1 _ rfl
          have h60 : a.eval (.tmp 60) = aggS fun i => !f i := (hd 12 60 (by kernel_rfl)).1 _ rfl
          have hF : a.eval (.func 23) = .func (.func 23) #[] #[] := rfl
          clear hk hd
          refine pay_guard rfl rfl h58 ?_
          refine step_call 23 #[aggS fun i => !f i] (by generalize a.eval = ρ at *; simp [go_sem, hF, h60]) ((not_not f W).mono ?_)
          rintro e w' ⟨rfl, hb⟩
          exact ⟨_, rfl, LT_val rfl, hb, hS.1.kept hb, hS.2.1.kept hb, hS.2.2.trans (hb.mono hS.2.2.size)⟩
        · intro a W hS hk hd
          have h58 : a.eval (.tmp 58) = .bool true := (hd 10 58 (by kernel_rfl)).1 _ rfl
          have p : a.eval (.tmp 1) = .pointer (some ⟨w0.heap.size, 0, none⟩) := hk 1 (by simp)
          obtain ⟨q0, q1, q2, q3⟩ := hS.2.1.conj
          clear hk hd
          refine pay_guard rfl rfl h58 ?_
          exact step_value (aggS f) (by unfold aggS; generalize a.eval = ρ at *; simp [go_sem, p, q0, q1, q2, q3]) (LT_val rfl) hS
        · intro a W hS hk hd
          have h58 : a.eval (.tmp 58) = .bool true := (hd 10 58 (by kernel_rfl)).1 _ rfl
          have h61 : a.eval (.tmp 61) = aggS f := (hd 13 61 (by kernel_rfl)).1 _ rfl
          have h62 : a.eval (.tmp 62) = aggS f := (hd 14 62 (by kernel_rfl)).1 _ rfl
          clear hk hd
          refine pay_guard rfl rfl h58 ?_
          exact step_value (.bool true) (exec_same rfl f h61 h62) (LT_val rfl) hS
        · intro a W hS hk hd
          have h58 : a.eval (.tmp 58) = .bool true := (hd 10 58 (by kernel_rfl)).1 _ rfl
          have h63 : a.eval (.tmp 63) = .bool true := (hd 15 63 (by kernel_rfl)).1 _ rfl
          clear hk hd
          refine pay_plain rfl ?_
          exact step_value (.bool true) (by generalize a.eval = ρ at *; simp [go_sem, h58, h63]) (LT_val rfl) hS
        · intro a W hS hk hd
          have h64 : a.eval (.tmp 64) = .bool true := (hd 16 64 (by kernel_rfl)).1 _ rfl
          clear hk hd
          refine pay_plain rfl ?_
          exact step_value (.bool true) (by generalize a.eval = ρ at *; simp [go_sem, h64]) (LT_val rfl) hS
        · intro a W hS hk hd
          have h65 : a.eval (.tmp 65) = .bool true := (hd 17 65 (by kernel_rfl)).1 _ rfl
          have p : a.eval (.tmp 1) = .pointer (some ⟨w0.heap.size, 0, none⟩) := hk 1 (by simp)
          obtain ⟨q0, q1, q2, q3⟩ := hS.2.1.conj
          clear hk hd
          refine pay_guard rfl rfl h65 ?_
          exact step_value (aggS f) (by unfold aggS; generalize a.eval = ρ at *; simp [go_sem, p, q0, q1, q2, q3]) (LT_val rfl) hS
        · intro a W hS hk hd
          have h65 : a.eval (.tmp 65) = .bool true := (hd 17 65 (by kernel_rfl)).1 _ rfl
          have h66 : a.eval (.tmp 66) = aggS f := (hd 18 66 (by kernel_rfl)).1 _ rfl
          have hF : a.eval (.func 13) = .func (.func 13) #[] #[] := rfl
          clear hk hd
          refine pay_guard rfl rfl h65 ?_
          refine step_call 13 #[aggS f] (by generalize a.eval = ρ at *; simp [go_sem, hF, h66]) ((k3.out W).mono ?_)
          rintro e w' ⟨rfl, hb⟩
          exact ⟨_, rfl, LT_val rfl, hb, hS.1.kept hb, hS.2.1.kept hb, hS.2.2.trans (hb.mono hS.2.2.size)⟩
        · intro a W hS hk hd
          have h65 : a.eval (.tmp 65) = .bool true := (hd 17 65 (by kernel_rfl)).1 _ rfl
          have p : a.eval (.tmp 1) = .pointer (some ⟨w0.heap.size, 0, none⟩) := hk 1 (by simp)
          obtain ⟨q0, q1, q2, q3⟩ := hS.2.1.conj
          clear hk hd
          refine pay_guard rfl rfl h65 ?_
          exact step_value (aggS f) (by unfold aggS; generalize a.eval = ρ at *; simp [go_sem, p, q0, q1, q2, q3]) (LT_val rfl) hS
        · intro a W hS hk hd
          have h65 : a.eval (.tmp 65) = .bool true := (hd 17 65 (by kernel_rfl)).1 _ rfl
          have h68 : a.eval (.tmp 68) = aggS f := (hd 20 68 (by kernel_rfl)).1 _ rfl
          have hF : a.eval (.func 23) = .func (.func 23) #[] #[] := rfl
          clear hk hd
          refine pay_guard rfl rfl h65 ?_
          refine step_call 23 #[aggS f] (by generalize a.eval = ρ at *; simp [go_sem, hF, h68]) ((not_any f W).mono ?_)
          rintro e w' ⟨rfl, hb⟩
          exact ⟨_, rfl, LT_val rfl, hb, hS.1.kept hb, hS.2.1.kept hb, hS.2.2.trans (hb.mono hS.2.2.size)⟩
        · intro a W hS hk hd
          have h65 : a.eval (.tmp 65) = .bool true := (hd 17 65 (by kernel_rfl)).1 _ rfl
          have h69 : a.eval (.tmp 69) = aggS fun i => !f i := (hd 21 69 (by kernel_rfl)).1 _ rfl
          have hF : a.eval (.func 13) = .func (.func 13) #[] #[] := rfl
          clear hk hd
          refine pay_guard rfl rfl h65 ?_
          refine step_call 13 #[aggS fun i => !f i] (by generalize a.eval = ρ at *; simp [go_sem, hF, h69]) ((k4.out W).mono ?_)
          rintro e w' ⟨rfl, hb⟩
          exact ⟨_, rfl, LT_val rfl, hb, hS.1.kept hb, hS.2.1.kept hb, hS.2.2.trans (hb.mono hS.2.2.size)⟩
        · intro a W hS hk hd
          have h65 : a.eval (.tmp 65) = .bool true := (hd 17 65 (by kernel_rfl)).1 _ rfl
          have h67 : a.eval (.tmp 67) = .int .i64 n1 := (hd 19 67 (by kernel_rfl)).1 _ rfl
          have h70 : a.eval (.tmp 70) = .int .i64 n2 := (hd 22 70 (by kernel_rfl)).1 _ rfl
          clear hk hd
          refine pay_guard rfl rfl h65 ?_
          exact step_value (.int .i64 256) (by generalize a.eval = ρ at *; simp [go_sem, h67, h70, hsum, hwr]) (LT_val rfl) hS
        · intro a W hS hk hd
          have h65 : a.eval (.tmp 65) = .bool true := (hd 17 65 (by kernel_rfl)).1 _ rfl
          have h71 : a.eval (.tmp 71) = .int .i64 256 := (hd 23 71 (by kernel_rfl)).1 _ rfl
          have c256 : a.eval (.const (.int .i64 256)) = .int .i64 256 := rfl
          clear hk hd
          refine pay_guard rfl rfl h65 ?_
          exact step_value (.bool true) (by generalize a.eval = ρ at *; simp [go_sem, h71, c256]) (LT_val rfl) hS
        · intro a W hS hk hd
          have h65 : a.eval (.tmp 65) = .bool true := (hd 17 65 (by kernel_rfl)).1 _ rfl
          have h72 : a.eval (.tmp 72) = .bool true := (hd 24 72 (by kernel_rfl)).1 _ rfl
          clear hk hd
          refine pay_plain rfl ?_
          exact step_value (.bool true) (by generalize a.eval = ρ at *; simp [go_sem, h65, h72]) (LT_val rfl) hS
        · intro a W hS hk hd
          have h73 : a.eval (.tmp 73) = .bool true := (hd 25 73 (by kernel_rfl)).1 _ rfl
          clear hk hd
          refine pay_plain rfl ?_
          exact step_value (.bool true) (by generalize a.eval = ρ at *; simp [go_sem, h73]) (LT_val rfl) hS
      case done =>
        intro vals w4 hv hS
        have hlast : vals 26 = .bool true := (hv 26 (by simp)).1 _ rfl
        simp only [fill, if_true, Act.put, List.setIfInBounds_toArray, List.set_cons_zero, List.set_cons_succ]
        rw [hlast]
        clear hv hlast hsum hwr HS k3 k4
        have hfin := hS.2.2
        clear hS hu hf hB
        go_wp2
        go_ret
        exact ⟨rfl, hfin⟩
end Go.Proofs.Ytcfjclcbfhajcaa
