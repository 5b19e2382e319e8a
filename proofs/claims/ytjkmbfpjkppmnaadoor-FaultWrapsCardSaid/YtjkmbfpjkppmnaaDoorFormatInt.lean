/- The library's FormatInt in base ten at every integer that is not below a hundred and not negative, or is negative, whatever the library's table holds: a string that the integer and the table determine. -/
import Derived.Test.YtjkmbfpjkppmnaaDoorFmtTen
import Derived.Test.YtjkmbfpjkppmnaaDoorNumDigits
import Derived.Lib.ItoaMem
import Derived.Below
namespace Go.Proofs.YtjkmbfpjkppmnaaDoor
open Go.RowKit Go.Sort
/-- How many digits the library takes where its table holds T. -/
def ndT (T : Nat → Int) (u : Nat) : Nat := ndOf u (T (Lib.l10 (Lib.bitLen u)))
/-- The row of a number's digits, as the library fills it where its table holds T. -/
def rowOf (T : Nat → Int) (u : Nat) : Array UInt8 := fin10 (ndT T u) u (Array.replicate (ndT T u) 0)
theorem rowOf_size (T : Nat → Int) (u : Nat) : (rowOf T u).size = ndT T u := by
  unfold rowOf
  rw [fin10_size, Array.size_replicate]
def Tab (T : Nat → Int) (w : World) : Prop := ∀ i, i < 20 → w.cell? ⟨2, i, none⟩ = some (.int .u64 (T i))
theorem below_putRow {B blk off : Nat} {a w : World} {enc : UInt8 → Value} {d : Array UInt8} (h : Below B a w) (hp : B ≤ blk) : Below B a (putRow enc w blk off d) :=
  ⟨h.os, h.tape, h.output, by simpa using h.size, fun k hk => by
    rw [← h.block k hk]
    have hne : ¬ blk = k := by omega
    simp [putRow, mapBlock, Array.getElem?_modify, hne]⟩
theorem below_drewN {B k : Nat} {a w : World} (h : Below B a w) : Below B a (w.drewN k) := ⟨h.os, h.tape, h.output, h.size, h.block⟩
theorem arr24 : Tryd.prog.arrayLen 117 = 24 := by kernel_rfl
theorem arr24e : Tryd.prog.elem 117 = 5 := by kernel_rfl
/-- The row that the library fills, in the world that it leaves. -/
theorem row_cells (w : World) (dk : Array UInt8) (n : Nat) (hs : dk.size = n) (hn : n ≤ 23) (k j : Nat) (hj : j < n) :
    ((putRow (fun (b : UInt8) => Value.int .u8 (b.toNat : Int)) (w.alloc (.cells Lib.zeros24 117)) w.heap.size 1 dk).drewN k).cell? ⟨w.heap.size, 1 + j, none⟩ = some (.int .u8 ((dk.toList.getD j 0).toNat : Int)) := by
  have h0 := Lib.holds_zero w 117 n (by omega)
  rw [World.cell?_drewN, cell?_putRow (fun (b : UInt8) => Value.int .u8 (b.toNat : Int)) _ w.heap.size 1 _ dk h0 (by rw [hs, Array.size_replicate]) j (by omega)]
  have e : dk[j]! = dk.toList.getD j 0 := by
    rw [getElem!_pos dk j (by omega), List.getD, List.getElem?_eq_getElem (by simpa using (by omega : j < dk.size))]
    simp
  rw [e]
set_option maxRecDepth 100000 in
set_option maxHeartbeats 8000000 in
theorem formatInt_pos (T : Nat → Int) (u : Nat) (h1 : 100 ≤ u) (h2 : u ≤ 9223372036854775807) (w : World) (htab : Tab T w) :
    Calls Tryd.prog 60 #[.int .i64 u, .int .i64 10] w fun e w' => e = .returned (.string ⟨rowOf T u⟩) ∧ Below w.heap.size w w' := by
  obtain ⟨-, h19⟩ := Lib.numDigits_eq u (by omega) (by omega)
  have hcell := htab _ (by omega : Lib.l10 (Lib.bitLen u) < 20)
  have hgl : 2 < w.heap.size := by
    rcases Nat.lt_or_ge 2 w.heap.size with h | h
    · exact h
    · simp [World.cell?, Array.getElem?_eq_none h] at hcell
  have hnd := numDigits_any u (by omega) (by omega) _ (w.alloc (.cells Lib.zeros24 117)) (by rw [World.cell?_alloc_lt _ _ ⟨2, Lib.l10 (Lib.bitLen u), none⟩ hgl]; exact hcell)
  have h20 := ndOf_le u (by omega) (by omega) (T (Lib.l10 (Lib.bitLen u)))
  have hlt := lt_pow_ndOf u (by omega) (by omega) (T (Lib.l10 (Lib.bitLen u)))
  change Calls _ _ _ _ fun e w' => e = .returned (.int .i64 (ndT T u : Nat)) ∧ _ at hnd
  change ndT T u ≤ 20 at h20
  change u < 10 ^ (ndT T u + 1) at hlt
  have hfmt := fmt_any w.heap.size 1 23 u (Array.replicate (ndT T u) 0) (w.alloc (.cells Lib.zeros24 117)) (Lib.holds_zero w 117 (ndT T u) (by omega)) (by rw [Array.size_replicate]; exact hlt) (by omega) (by rw [Array.size_replicate]; omega)
  rw [Array.size_replicate] at hfmt
  have hrow : fin10 (ndT T u) u (Array.replicate (ndT T u) 0) = rowOf T u := rfl
  rw [hrow] at hfmt
  have hsz := rowOf_size T u
  generalize rowOf T u = dk at hfmt hsz ⊢
  generalize ndT T u = nd at hnd h20 hlt hfmt hsz
  have hsl1 : ∀ W, (Instr.sliceAt 117 (.pointer (some ⟨w.heap.size, 0, none⟩)) (some (.int .i64 1)) (some (.int .i64 (1 + (nd : Int)))) none).run Tryd.prog W = .ok (.slice (some ⟨w.heap.size, 1, none⟩) nd 23) W := fun W => by
    rw [run_sliceAt_array_lh W 117 ⟨w.heap.size, 0, none⟩ (by kernel_rfl) .i64 .i64 1 (1 + (nd : Int)) (by omega) (by omega) (by rw [arr24]; omega)]
    go_simp
    omega
  have hcv : ∀ k, (convert 121 9 (.slice (some ⟨w.heap.size, 1, none⟩) nd 23)).run Tryd.prog ((putRow (fun (b : UInt8) => Value.int .u8 (b.toNat : Int)) (w.alloc (.cells Lib.zeros24 117)) w.heap.size 1 dk).drewN k) = .ok (.string ⟨dk⟩) ((putRow (fun (b : UInt8) => Value.int .u8 (b.toNat : Int)) (w.alloc (.cells Lib.zeros24 117)) w.heap.size 1 dk).drewN k) := fun k => by
    have h := run_convert_bytes_back (P := Tryd.prog) ((putRow (fun (b : UInt8) => Value.int .u8 (b.toNat : Int)) (w.alloc (.cells Lib.zeros24 117)) w.heap.size 1 dk).drewN k) 121 9 5 ⟨w.heap.size, 1, none⟩ 23 dk.toList Tryd.underlying121 Tryd.underlying5 Tryd.underlying9 (fun j hj => by
      have hj' : j < nd := by simpa [hsz] using hj
      rw [Lib.add_plain, row_cells w dk nd hsz (by omega) k j hj', List.getD, List.getElem?_eq_getElem hj]
      rfl)
    rw [Array.length_toList, hsz] at h
    exact h
  have HC := Lib.hid hcell
  have HS := Lib.hid hsz
  have HL := Lib.hid hlt
  clear htab hcell hgl hrow hsz hlt h19
  go_enter Tryd.func60, Tryd.ntmps60
  go_wp2_with fail
  refine hnd.mono ?_
  rintro e w' ⟨rfl, hw⟩
  obtain rfl := hw
  go_wp2_with fail
  refine hfmt.mono ?_
  rintro e w' ⟨rfl, k, hw⟩
  obtain rfl := hw
  have hcv' := hcv k
  clear hcv
  go_wp2_with fail
  go_ret
  exact ⟨rfl, below_drewN (below_putRow ((Below.refl _ _).alloc (Nat.le_refl _) _) (Nat.le_refl _))⟩
set_option maxRecDepth 100000 in
set_option maxHeartbeats 8000000 in
theorem formatInt_neg (T : Nat → Int) (u : Nat) (h1 : 1 ≤ u) (h2 : u ≤ 9223372036854775808) (w : World) (htab : Tab T w) :
    Calls Tryd.prog 60 #[.int .i64 (-(u : Int)), .int .i64 10] w fun e w' => e = .returned (.string ⟨(45 :: (rowOf T u).toList).toArray⟩) ∧ Below w.heap.size w w' := by
  obtain ⟨-, h19⟩ := Lib.numDigits_eq u (by omega) (by omega)
  have hcell := htab _ (by omega : Lib.l10 (Lib.bitLen u) < 20)
  have hgl : 2 < w.heap.size := by
    rcases Nat.lt_or_ge 2 w.heap.size with h | h
    · exact h
    · simp [World.cell?, Array.getElem?_eq_none h] at hcell
  have hnd := numDigits_any u (by omega) (by omega) _ (w.alloc (.cells Lib.zeros24 117)) (by rw [World.cell?_alloc_lt _ _ ⟨2, Lib.l10 (Lib.bitLen u), none⟩ hgl]; exact hcell)
  have h20 := ndOf_le u (by omega) (by omega) (T (Lib.l10 (Lib.bitLen u)))
  have hlt := lt_pow_ndOf u (by omega) (by omega) (T (Lib.l10 (Lib.bitLen u)))
  change Calls _ _ _ _ fun e w' => e = .returned (.int .i64 (ndT T u : Nat)) ∧ _ at hnd
  change ndT T u ≤ 20 at h20
  change u < 10 ^ (ndT T u + 1) at hlt
  have hfmt := fmt_any w.heap.size 1 23 u (Array.replicate (ndT T u) 0) (w.alloc (.cells Lib.zeros24 117)) (Lib.holds_zero w 117 (ndT T u) (by omega)) (by rw [Array.size_replicate]; exact hlt) (by omega) (by rw [Array.size_replicate]; omega)
  rw [Array.size_replicate] at hfmt
  have hrow : fin10 (ndT T u) u (Array.replicate (ndT T u) 0) = rowOf T u := rfl
  rw [hrow] at hfmt
  have hsz := rowOf_size T u
  generalize rowOf T u = dk at hfmt hsz ⊢
  generalize ndT T u = nd at hnd h20 hlt hfmt hsz
  have hsl1 : ∀ W, (Instr.sliceAt 117 (.pointer (some ⟨w.heap.size, 0, none⟩)) (some (.int .i64 1)) (some (.int .i64 (1 + (nd : Int)))) none).run Tryd.prog W = .ok (.slice (some ⟨w.heap.size, 1, none⟩) nd 23) W := fun W => by
    rw [run_sliceAt_array_lh W 117 ⟨w.heap.size, 0, none⟩ (by kernel_rfl) .i64 .i64 1 (1 + (nd : Int)) (by omega) (by omega) (by rw [arr24]; omega)]
    go_simp
    omega
  have hsl2 : ∀ W, (Instr.sliceAt 117 (.pointer (some ⟨w.heap.size, 0, none⟩)) none (some (.int .i64 (1 + (nd : Int)))) none).run Tryd.prog W = .ok (.slice (some ⟨w.heap.size, 0, none⟩) (1 + nd) 24) W := fun W => by
    rw [run_sliceAt_array_h W 117 ⟨w.heap.size, 0, none⟩ (by kernel_rfl) .i64 (1 + (nd : Int)) (by omega) (by rw [arr24]; omega)]
    go_simp
    omega
  have hwr : IntKind.u64.wrap (-IntKind.u64.wrap (-(u : Int))) = (u : Int) := by rw [IntKind.wrap_u64, IntKind.wrap_u64]; omega
  have hc0 : ∀ k, ((putRow (fun (b : UInt8) => Value.int .u8 (b.toNat : Int)) (w.alloc (.cells Lib.zeros24 117)) w.heap.size 1 dk).drewN k).cell? ⟨w.heap.size, 0, none⟩ = some (.int .u8 0) := fun k => by
    rw [World.cell?_drewN, cell?_putRow_other _ _ _ _ _ _ (Or.inr (Or.inl (Nat.zero_lt_one))), World.cell?_alloc_new]
    exact Lib.zeros24_at 0 (by omega)
  have hf0 : ∀ k, ((putRow (fun (b : UInt8) => Value.int .u8 (b.toNat : Int)) (w.alloc (.cells Lib.zeros24 117)) w.heap.size 1 dk).drewN k).frozen? ⟨w.heap.size, 0, none⟩ = false := fun k => by
    rw [World.frozen?_drewN, frozen?_putRow]
    exact World.frozen?_alloc_new _ _ _ _
  have hcv : ∀ k, (convert 121 9 (.slice (some ⟨w.heap.size, 0, none⟩) (1 + nd) 24)).run Tryd.prog (((putRow (fun (b : UInt8) => Value.int .u8 (b.toNat : Int)) (w.alloc (.cells Lib.zeros24 117)) w.heap.size 1 dk).drewN k).setCell ⟨w.heap.size, 0, none⟩ (.int .u8 45)) = .ok (.string ⟨(45 :: dk.toList).toArray⟩) (((putRow (fun (b : UInt8) => Value.int .u8 (b.toNat : Int)) (w.alloc (.cells Lib.zeros24 117)) w.heap.size 1 dk).drewN k).setCell ⟨w.heap.size, 0, none⟩ (.int .u8 45)) := fun k => by
    have h := run_convert_bytes_back (P := Tryd.prog) (((putRow (fun (b : UInt8) => Value.int .u8 (b.toNat : Int)) (w.alloc (.cells Lib.zeros24 117)) w.heap.size 1 dk).drewN k).setCell ⟨w.heap.size, 0, none⟩ (.int .u8 45)) 121 9 5 ⟨w.heap.size, 0, none⟩ 24 (45 :: dk.toList) Tryd.underlying121 Tryd.underlying5 Tryd.underlying9 (fun j hj => by
      rw [Lib.add_plain]
      cases j with
      | zero => exact World.cell?_setCell_same _ _ _ (hc0 k)
      | succ i =>
        have hi : i < dk.toList.length := by simpa using hj
        have hj' : i < nd := by simpa [hsz] using hi
        rw [World.cell?_setCell_other _ _ _ _ (by simp), List.getElem_cons_succ, show 0 + (i + 1) = 1 + i by omega, row_cells w dk nd hsz (by omega) k i hj', List.getD, List.getElem?_eq_getElem hi]
        rfl)
    rw [List.length_cons, Array.length_toList, hsz, Nat.add_comm] at h
    exact h
  have HC := Lib.hid hcell
  have HS := Lib.hid hsz
  have HL := Lib.hid hlt
  clear htab hcell hgl hrow hsz hlt h19
  go_enter Tryd.func60, Tryd.ntmps60
  go_wp2_with fail
  refine hnd.mono ?_
  rintro e w' ⟨rfl, hw⟩
  obtain rfl := hw
  go_wp2_with fail
  refine hfmt.mono ?_
  rintro e w' ⟨rfl, k, hw⟩
  obtain rfl := hw
  have hcv' := hcv k
  have hc0' := hc0 k
  have hf0' := hf0 k
  clear hcv hc0 hf0
  go_wp2_with fail
  go_ret
  exact ⟨rfl, (below_drewN (below_putRow ((Below.refl _ _).alloc (Nat.le_refl _) _) (Nat.le_refl _))).setCell (Nat.le_refl _) _⟩
end Go.Proofs.YtjkmbfpjkppmnaaDoor
