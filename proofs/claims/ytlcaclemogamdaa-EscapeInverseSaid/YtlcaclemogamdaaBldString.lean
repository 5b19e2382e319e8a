/- The contract of a builder's String, off the library's shelf, at this program's numbers. -/
import Derived.Shelf.Strings.Builder1
import Derived.Test.YtlcaclemogamdaaBldWalks
namespace Go.Proofs.Ytlcaclemogamdaa
open Go.RowKit Go.Shelf
def ren169 : Ren := ⟨fun | 169 => 22 | n => n, fun | 70 => 41 | 9 => 9 | 0 => 0 | 72 => 43 | 37 => 30 | 127 => 50 | 3 => 3 | 5 => 5 | n => n, fun | n => n⟩
theorem lays169 : Go.Proofs.Lays.n169 Try.prog ren169 := {
  mixed := by kernel_rfl
  f169 := Try.func22.trans (congrArg some (by kernel_rfl))
  t0 := Try.underlying0, a0 := Try.isAgg0, z0 := Try.sizeOf0, v0 := Try.zeroValue0
  t3 := Try.underlying3, a3 := Try.isAgg3, z3 := Try.sizeOf3, v3 := Try.zeroValue3
  t9 := Try.underlying9, a9 := Try.isAgg9, z9 := Try.sizeOf9, v9 := Try.zeroValue9
  t37 := Try.underlying30, a37 := Try.isAgg30, z37 := Try.sizeOf30, v37 := Try.zeroValue30
  t70 := Try.underlying41, a70 := Try.isAgg41, z70 := Try.sizeOf41, v70 := Try.zeroValue41
  t72 := Try.underlying43, a72 := Try.isAgg43, z72 := Try.sizeOf43, v72 := Try.zeroValue43
  t127 := Try.underlying50, a127 := Try.isAgg50, z127 := Try.sizeOf50, v127 := Try.zeroValue50 }
theorem extra169 : Builder.Extra Try.prog ren169 := {
  sizeBuilder := by kernel_rfl
  liesBuilder := by kernel_rfl
  t5 := Try.underlying5, a5 := Try.isAgg5, z5 := Try.sizeOf5, v5 := Try.zeroValue5
  infoByte := by kernel_rfl
  cellsByte := by kernel_rfl
  sizeByte := by kernel_rfl
  neB5 := by decide }
theorem u8s_byteCells (l : List Nat) (h : ∀ x, x ∈ l → x < 256) : u8s l = Lib.byteCells (l.map UInt8.ofNat) := by
  unfold u8s Lib.byteCells
  rw [List.map_map]
  refine List.map_congr_left fun x hx => ?_
  have := h x hx
  show Value.int .u8 (x : Int) = Value.int .u8 ((UInt8.ofNat x).toNat : Int)
  congr 2
  simp; omega
theorem bldString_any (B b : Nat) (l : List Nat) (w : World) (h : Bld B b l w) (hl : ∀ x, x ∈ l → x < 256) (hB : B ≤ w.heap.size) :
    Calls Try.prog 22 #[.pointer (some ⟨b, 0, none⟩)] w fun e w' => e = .returned (.string (strOf l)) ∧ Below B w w' := by
  unfold Bld at h
  rw [u8s_byteCells l hl] at h
  exact Any.Builder_String_any lays169 extra169 B b (l.map UInt8.ofNat) w h hB
end Go.Proofs.Ytlcaclemogamdaa
