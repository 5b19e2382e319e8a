/- The law's own build: the error of a description, with as many names around it as the description has. -/
import Derived.Test.YtjkmbfpjkppmnaaDoorRules
import Derived.Test.YtjkmbfpjkppmnaaDoorItoaAny
namespace Go.Proofs.YtjkmbfpjkppmnaaDoor
open Go.RowKit
/-- A bound on the length of an error's text. -/
def Err.bulk : Err → Nat
  | .code _ => 40
  | .fault _ _ => 40
  | .text _ t => t.size
  | .within _ r e => r.size + e.bulk + 7
theorem textT_size (T : Nat → Int) : ∀ e : Err, e.Ok → (e.textT T).size ≤ e.bulk
  | .code c, h => by
    have := itoaT_size T c h.1 h.2
    have e1 : (⟨#[101, 114, 114, 111, 114, 32]⟩ : ByteArray).size = 6 := rfl
    simp only [Err.textT, Err.bulk, ByteArray.size_append]; omega
  | .fault c _, h => by
    have := itoaT_size T c h.1 h.2
    have e1 : (⟨#[101, 114, 114, 111, 114, 32]⟩ : ByteArray).size = 6 := rfl
    simp only [Err.textT, Err.bulk, ByteArray.size_append]; omega
  | .text _ t, _ => Nat.le_refl _
  | .within _ r e, h => by
    have := textT_size T e h
    have e1 : (⟨#[114, 117, 108, 101, 32]⟩ : ByteArray).size = 5 := rfl
    have e2 : (⟨#[58, 32]⟩ : ByteArray).size = 2 := rfl
    simp only [Err.textT, Err.bulk, ByteArray.size_append]; omega
/-- What is known of the error of a description, with k names around it. -/
structure Built (f : Bool) (c p : Int) (k : Nat) (e : Err) : Prop where
  code : e.codeOf = some c
  fault : e.faultOf = if f then some (c, p) else none
  ok : e.Ok
  bulk : e.bulk ≤ 40 + k * 107
def BuildPost (f : Bool) (c p : Int) (k : Nat) (w : World) (ev : Ending) (w' : World) : Prop :=
  ∃ e : Err, ev = .returned (.iface e.ty e.inner) ∧ Built f c p k e ∧ e.In w' ∧ Below w.heap.size w w'
def BuildRel (f : Bool) (c p : Int) (w : World) (n g : Nat) (v i : Value) (wr : World) : Prop :=
  ∃ (k : Nat) (e : Err), k + g = n ∧ i = .int .i64 k ∧ v = .iface e.ty e.inner ∧ Built f c p k e ∧ e.In wr ∧ Below w.heap.size w wr
theorem Built.start_code (c p : Int) (h0 : -9223372036854775808 ≤ c) (h1 : c ≤ 9223372036854775807) : Built false c p 0 (.code c) := ⟨rfl, rfl, ⟨h0, h1⟩, Nat.le_refl _⟩
theorem Built.start_fault (c p : Int) (h0 : -9223372036854775808 ≤ c) (h1 : c ≤ 9223372036854775807) : Built true c p 0 (.fault c p) := ⟨rfl, rfl, ⟨h0, h1⟩, Nat.le_refl _⟩
theorem Built.more {f : Bool} {c p : Int} {k b : Nat} {e : Err} {r : ByteArray} (h : Built f c p k e) (hr : r.size ≤ 100) : Built f c p (k + 1) (.within b r e) :=
  ⟨h.code, h.fault, h.ok, by have := h.bulk; simp only [Err.bulk]; omega⟩
theorem Within_e (r : ByteArray) (e : Err) (w : World) (he : e.In w) :
    Calls Tryd.prog 15 #[.string r, .iface e.ty e.inner] w fun ev w' => ev = .returned (.iface 60 (.pointer (some ⟨w.heap.size, 0, none⟩))) ∧ (Err.within w.heap.size r e).In w' ∧ Below w.heap.size w w' := by
  have h := Within_any r e w
  rw [e.val_eq] at h
  refine h.mono fun ev w' ⟨h1, h2⟩ => ⟨h1, ?_, by subst h2; exact (Below.refl _ _).alloc (Nat.le_refl _) _⟩
  subst h2
  exact ⟨by simp, by simp [e.val_eq], he.kept ((Below.refl _ _).alloc (Nat.le_refl _) _) (Nat.le_refl _)⟩
set_option maxRecDepth 100000 in
set_option maxHeartbeats 4000000 in
theorem build_any (f : Bool) (c p : Int) (at0 : Option Addr) (cap : Nat) (ss : List ByteArray) (w : World) (hr : RulesAt w at0 ss) (hfew : fewB ss = true) (h0 : -9223372036854775808 ≤ c) (h1 : c ≤ 9223372036854775807) :
    Calls Tryd.prog 10 #[.agg #[.bool false, .slice at0 ss.length cap, .int .i64 c, .int .i64 p, .bool f]] w (BuildPost f c p ss.length w) := by
  obtain ⟨hlen, hs100⟩ := fewB_true hfew
  obtain ⟨n, hn⟩ : ∃ n, n = ss.length := ⟨_, rfl⟩
  rw [← hn] at hlen ⊢
  have Hn := Lib.hid hn
  have HS := Lib.hid hs100
  clear hn hs100 hfew
  obtain ⟨W1, hW1⟩ : ∃ W1, w.alloc (.cells #[.bool false, .slice at0 n cap, .int .i64 c, .int .i64 p, .bool f] 24) = W1 := ⟨_, rfl⟩
  have hb1 : Below w.heap.size w W1 := by rw [← hW1]; exact (Below.refl _ _).alloc (Nat.le_refl _) _
  have hz1 : w.heap.size < W1.heap.size := by rw [← hW1]; simp
  have q0 : W1.cell? ⟨w.heap.size, 0, none⟩ = some (.bool false) := by rw [← hW1]; simp
  have q1 : W1.cell? ⟨w.heap.size, 1, none⟩ = some (.slice at0 n cap) := by rw [← hW1]; simp
  have q2 : W1.cell? ⟨w.heap.size, 2, none⟩ = some (.int .i64 c) := by rw [← hW1]; simp
  have q3 : W1.cell? ⟨w.heap.size, 3, none⟩ = some (.int .i64 p) := by rw [← hW1]; simp
  have q4 : W1.cell? ⟨w.heap.size, 4, none⟩ = some (.bool f) := by rw [← hW1]; simp
  have HR := Lib.hid (hr.kept hb1 (Nat.le_refl _))
  have HB := Lib.hid hb1
  have HW := Lib.hid hW1
  clear hr hb1 hW1
  cases f
  all_goals
    go_enter Tryd.func10, Tryd.ntmps10
    go_wp2
    rw [HW.out]
  · go_loopg [3, 4] n (fun g v i wr => BuildRel false c p W1 n g v i wr)
    case atStart => exact ⟨0, .code c, by omega, rfl, rfl, Built.start_code c p h0 h1, trivial, Below.refl _ _⟩
    case round =>
      obtain ⟨k, e, hk, rfl, rfl, hB, hI, hb⟩ := hrel
      have hbc := bcell hb
      have p1 : wr.cell? ⟨w.heap.size, 1, none⟩ = some (.slice at0 n cap) := by rw [hbc.1 _ _ hz1]; exact q1
      have Hk := Lib.hid hk
      have HBu := Lib.hid hB
      have HI := Lib.hid hI
      have Hb := Lib.hid hb
      by_cases hlt : k < n
      · have hR := HR.out.kept hb (Nat.le_refl _)
        obtain ⟨b, off, rfl⟩ := hR.at_some k (by rw [← Hn.out]; exact hlt)
        have hc := hR.cells b off rfl k (by rw [← Hn.out]; exact hlt)
        have h100 := HS.out k (by rw [← Hn.out]; exact hlt)
        generalize ss.getD k ⟨#[]⟩ = s at hc h100
        have H100 := Lib.hid h100
        clear hk hB hI hb hbc hR h100 q0 q1 q2 q3 q4
        go_wp2_with (go_at_call 15; with_reducible refine (Within_e _ _ _ HI.out).mono ?_; rintro ev w2 ⟨rfl, hI2, hb2⟩; have HI2 := Lib.hid hI2; have Hb2 := Lib.hid hb2; clear hI2 hb2)
        go_roundg (gk - 1)
        case measure => have := Hk.out; omega
        case rel => exact ⟨k + 1, .within wr.heap.size s e, by have := Hk.out; omega, by go_num, rfl, HBu.out.more H100.out, HI2.out, Hb.out.trans (Hb2.out.mono Hb.out.size)⟩
      · obtain rfl : k = n := by have := Hk.out; omega
        clear hk hB hI hb hbc q0 q1 q2 q3 q4
        go_wp2
        go_ret
        exact ⟨e, rfl, HBu.out, HI.out, HB.out.trans (Hb.out.mono HB.out.size)⟩
  · go_loopg [3, 4] n (fun g v i wr => BuildRel true c p W1 n g v i wr)
    case atStart => exact ⟨0, .fault c p, by omega, rfl, rfl, Built.start_fault c p h0 h1, trivial, Below.refl _ _⟩
    case round =>
      obtain ⟨k, e, hk, rfl, rfl, hB, hI, hb⟩ := hrel
      have hbc := bcell hb
      have p1 : wr.cell? ⟨w.heap.size, 1, none⟩ = some (.slice at0 n cap) := by rw [hbc.1 _ _ hz1]; exact q1
      have Hk := Lib.hid hk
      have HBu := Lib.hid hB
      have HI := Lib.hid hI
      have Hb := Lib.hid hb
      by_cases hlt : k < n
      · have hR := HR.out.kept hb (Nat.le_refl _)
        obtain ⟨b, off, rfl⟩ := hR.at_some k (by rw [← Hn.out]; exact hlt)
        have hc := hR.cells b off rfl k (by rw [← Hn.out]; exact hlt)
        have h100 := HS.out k (by rw [← Hn.out]; exact hlt)
        generalize ss.getD k ⟨#[]⟩ = s at hc h100
        have H100 := Lib.hid h100
        clear hk hB hI hb hbc hR h100 q0 q1 q2 q3 q4
        go_wp2_with (go_at_call 15; with_reducible refine (Within_e _ _ _ HI.out).mono ?_; rintro ev w2 ⟨rfl, hI2, hb2⟩; have HI2 := Lib.hid hI2; have Hb2 := Lib.hid hb2; clear hI2 hb2)
        go_roundg (gk - 1)
        case measure => have := Hk.out; omega
        case rel => exact ⟨k + 1, .within wr.heap.size s e, by have := Hk.out; omega, by go_num, rfl, HBu.out.more H100.out, HI2.out, Hb.out.trans (Hb2.out.mono Hb.out.size)⟩
      · obtain rfl : k = n := by have := Hk.out; omega
        clear hk hB hI hb hbc q0 q1 q2 q3 q4
        go_wp2
        go_ret
        exact ⟨e, rfl, HBu.out, HI.out, HB.out.trans (Hb.out.mono HB.out.size)⟩
end Go.Proofs.YtjkmbfpjkppmnaaDoor
