/- The texts of errors: what the method Error of any error of this program returns, given what strconv.Itoa returns at its code. -/
import Derived.Test.YtjkmbfpjkppmnaaDoorNames
import Derived.Test.YtjkmbfpjkppmnaaDoorItoa1
import Derived.Deep.RegionHeld3
import Derived.BigQuiet
import Derived.Conc.MuLone
import Derived.Deep.QuietTactic
namespace Go.Proofs.YtjkmbfpjkppmnaaDoor
open Go.RowKit
/-- In every world that is W but for new memory, strconv.Itoa of c is s. -/
def Itoas (W : World) (c : Int) (s : ByteArray) : Prop :=
  s.size ≤ 30 ∧ ∀ w', Below W.heap.size W w' → Calls Tryd.prog 58 #[.int .i64 c] w' fun ev w'' => ev = .returned (.string s) ∧ Below w'.heap.size w' w''
theorem itoas_one (W : World) : Itoas W 1 ⟨#[49]⟩ :=
  ⟨by decide, fun w' _ => (itoa_one w').mono fun ev w'' ⟨h1, h2⟩ => ⟨h1, by rw [h2]; exact Below.refl _ _⟩⟩
def Err.TextIs (W : World) : Err → ByteArray → Prop
  | .code c, s => ∃ t, Itoas W c t ∧ s = ⟨#[101, 114, 114, 111, 114, 32]⟩ ++ t
  | .fault c _, s => ∃ t, Itoas W c t ∧ s = ⟨#[101, 114, 114, 111, 114, 32]⟩ ++ t
  | .text _ t, s => s = t
  | .within _ r e, s => ∃ t, e.TextIs W t ∧ s = ⟨#[114, 117, 108, 101, 32]⟩ ++ r ++ ⟨#[58, 32]⟩ ++ t
theorem m_error (e : Err) (w : World) : (Go.method 248 e.ty e.inner "Error").run Tryd.prog w = .ok (e.fnError, e.inner) w := by
  cases e <;> kernel_rfl
theorem n_error (e : Err) (w : World) : (nilAhead 248 e.ty e.inner "Error").run Tryd.prog w = .ok (some false) w := by
  cases e <;> kernel_rfl
theorem error_code (c : Int) (s : ByteArray) (W w : World) (hs : (Err.code c).TextIs W s) (hb : Below W.heap.size W w) :
    Calls Tryd.prog 57 #[.int .i64 c] w fun ev w' => ev = .returned (.string s) ∧ Below w.heap.size w w' := by
  obtain ⟨t, ⟨h1, h2⟩, rfl⟩ := hs
  have hI := h2 w hb
  clear h2 hb
  go_enter Tryd.func57, Tryd.ntmps57
  go_wp2_with (go_at_call 58; refine hI.mono ?_; rintro ev w1 ⟨rfl, hb⟩; have HB := Lib.hid hb; clear hb)
  go_ret
  exact ⟨rfl, HB.out⟩
theorem error_fault (c p : Int) (s : ByteArray) (W w : World) (hs : (Err.fault c p).TextIs W s) (hb : Below W.heap.size W w) :
    Calls Tryd.prog 72 #[.agg #[.int .i64 c, .int .i64 p]] w fun ev w' => ev = .returned (.string s) ∧ Below w.heap.size w w' := by
  have hs' : (Err.code c).TextIs W s := hs
  have hI := error_code c s W (w.alloc (.cells #[.int .i64 c, .int .i64 p] 41)) hs' (hb.alloc hb.size _)
  clear hb hs hs'
  go_enter Tryd.func72, Tryd.ntmps72
  go_wp2_with (go_at_call 57; refine hI.mono ?_; rintro ev w1 ⟨rfl, hb⟩; replace hb : Below w.heap.size w w1 := ((Below.refl w.heap.size w).alloc (Nat.le_refl _) _).trans (hb.mono (by simp)); have HB := Lib.hid hb; clear hb)
  go_ret
  exact ⟨rfl, HB.out⟩
theorem error_text (b : Nat) (s : ByteArray) (w : World) (h : w.cell? ⟨b, 0, none⟩ = some (.string s)) :
    Calls Tryd.prog 79 #[.pointer (some ⟨b, 0, none⟩)] w fun ev w' => ev = .returned (.string s) ∧ w' = w := by
  go_enter Tryd.func79, Tryd.ntmps79
  go_wp2
  go_ret
  exact ⟨rfl, rfl⟩
theorem enter_error (e : Err) (args : Array Value) (w : World) : (callFunc e.fnError args).run Tryd.prog w = .ok (.enter e.fnError args) w := by
  cases e with
  | code c => exact MuLone.run_callFunc_enter Tryd.func57 (by kernel_rfl) rfl args w
  | fault c p => exact MuLone.run_callFunc_enter Tryd.func72 (by kernel_rfl) rfl args w
  | text b s => exact MuLone.run_callFunc_enter Tryd.func79 (by kernel_rfl) rfl args w
  | within b r e => exact MuLone.run_callFunc_enter Tryd.func74 (by kernel_rfl) rfl args w
theorem heldK {w W W1 : World} {b : Nat} {r : ByteArray} {x : Value} (hl : b < w.heap.size) (hb : Below W.heap.size W W1) (h : W.cell? ⟨b, 0, none⟩ = some (.string r) ∧ W.cell? ⟨b, 1, none⟩ = some x ∧ Below w.heap.size w W) :
    W1.cell? ⟨b, 0, none⟩ = some (.string r) ∧ W1.cell? ⟨b, 1, none⟩ = some x ∧ Below w.heap.size w W1 := by
  have hz := h.2.2.size
  exact ⟨by rw [(bcell hb).1 _ _ (by omega)]; exact h.1, by rw [(bcell hb).1 _ _ (by omega)]; exact h.2.1, h.2.2.trans (hb.mono hz)⟩
set_option maxHeartbeats 1000000 in
theorem error_within (b : Nat) (r : ByteArray) (e : Err) (t : ByteArray) (w : World) (he : (Err.within b r e).In w)
    (hr : r.size ≤ 1000000) (ht : t.size ≤ 1000000)
    (hc : ∀ w', Below w.heap.size w w' → Calls Tryd.prog e.fnError #[e.inner] w' fun ev w'' => ev = .returned (.string t) ∧ Below w'.heap.size w' w'') :
    Calls Tryd.prog 74 #[.pointer (some ⟨b, 0, none⟩)] w fun ev w' => ev = .returned (.string (⟨#[114, 117, 108, 101, 32]⟩ ++ r ++ ⟨#[58, 32]⟩ ++ t)) ∧ Below w.heap.size w w' := by
  obtain ⟨h0, h1, -⟩ := he
  rw [e.val_eq] at h1
  have hl := lt_of_cell h0
  have k1 : ∀ w, (Op.stringOp .add ⟨#[114, 117, 108, 101, 32]⟩ r).run Tryd.prog w = .ok (.string (⟨#[114, 117, 108, 101, 32]⟩ ++ r)) w := fun w => run_string_add_sum w _ _ (by have e1 : (⟨#[114, 117, 108, 101, 32]⟩ : ByteArray).size = 5 := rfl; omega)
  have k2 : ∀ w, (Op.stringOp .add (⟨#[114, 117, 108, 101, 32]⟩ ++ r) ⟨#[58, 32]⟩).run Tryd.prog w = .ok (.string (⟨#[114, 117, 108, 101, 32]⟩ ++ r ++ ⟨#[58, 32]⟩)) w := fun w => run_string_add_sum w _ _ (by have e1 : (⟨#[114, 117, 108, 101, 32]⟩ : ByteArray).size = 5 := rfl; have e2 : (⟨#[58, 32]⟩ : ByteArray).size = 2 := rfl; rw [ByteArray.size_append]; omega)
  have k3 : ∀ w, (Op.stringOp .add (⟨#[114, 117, 108, 101, 32]⟩ ++ r ++ ⟨#[58, 32]⟩) t).run Tryd.prog w = .ok (.string (⟨#[114, 117, 108, 101, 32]⟩ ++ r ++ ⟨#[58, 32]⟩ ++ t)) w := fun w => run_string_add_sum w _ _ (by have e1 : (⟨#[114, 117, 108, 101, 32]⟩ : ByteArray).size = 5 := rfl; have e2 : (⟨#[58, 32]⟩ : ByteArray).size = 2 := rfl; rw [ByteArray.size_append, ByteArray.size_append]; omega)
  have me := m_error e
  have ee := enter_error e
  have ne := n_error e
  go_enter Tryd.func74, Tryd.ntmps74
  go_wp2
  have hS : w.drew.cell? ⟨b, 0, none⟩ = some (.string r) ∧ w.drew.cell? ⟨b, 1, none⟩ = some (.iface e.ty e.inner) ∧ Below w.heap.size w w.drew := ⟨by simpa using h0, by simpa using h1, (Below.refl _ _).drew⟩
  clear h0 h1
  go_region_held3 (fun W => W.cell? ⟨b, 0, none⟩ = some (.string r) ∧ W.cell? ⟨b, 1, none⟩ = some (.iface e.ty e.inner) ∧ Below w.heap.size w W) (first | exact hS)
    (first | (with_reducible refine (hc _ hS.2.2).mono ?_; rintro ev w3 ⟨rfl, hb⟩; replace hS := heldK hl hb hS; clear hb))
  go_wp2
  go_ret
  exact ⟨rfl, hS.2.2⟩
/-- What the method Error returns, in every world that is W but for new memory. -/
theorem error_any (e : Err) : ∀ (s : ByteArray) (W w : World), e.TextIs W s → s.size ≤ 1000000 → e.In W → Below W.heap.size W w →
    Calls Tryd.prog e.fnError #[e.inner] w fun ev w' => ev = .returned (.string s) ∧ Below w.heap.size w w' := by
  induction e with
  | code c => exact fun s W w hs _ _ hb => error_code c s W w hs hb
  | fault c p => exact fun s W w hs _ _ hb => error_fault c p s W w hs hb
  | text b s' =>
    intro s W w hs _ he hb
    have hs' : s = s' := hs
    subst hs'
    have h0 : W.cell? ⟨b, 0, none⟩ = some (.string s) := he
    exact (error_text b s w (by rw [(bcell hb).1 _ _ (lt_of_cell h0)]; exact h0)).mono fun ev w' ⟨h1, h2⟩ => ⟨h1, by rw [h2]; exact Below.refl _ _⟩
  | within b r e ih =>
    intro s W w hs hz he hb
    obtain ⟨t, ht, rfl⟩ := hs
    have hz1 : t.size ≤ 1000000 ∧ r.size ≤ 1000000 := by
      simp only [ByteArray.size_append] at hz
      exact ⟨by omega, by omega⟩
    have he' : (Err.within b r e).In w := he.kept hb (Nat.le_refl _)
    exact error_within b r e t w he' hz1.2 hz1.1 (fun w' hb' => ih t W w' ht hz1.1 he.2.2 (hb.trans (hb'.mono hb.size)))
end Go.Proofs.YtjkmbfpjkppmnaaDoor
