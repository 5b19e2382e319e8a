/- What the laws of the syntax need of the functions that they call. -/
import Derived.Test.YtmjnbapkpcfgcaaGreatDoorPkK
import Derived.Test.YtmjnbapkpcfgcaaGreatDoorPkY
import Derived.Test.YtmjnbapkpcfgcaaGreatDoorPkX
import Derived.Test.YtmjnbapkpcfgcaaGreatDoorPkV
namespace Go.Proofs.YtmjnbapkpcfgcaaGreatDoor
section
open Go.RowKit
theorem qParse_any (s : ByteArray) (w : World) (hs : s.size ≤ 1050000) : Calls Tryz.prog 10 #[.string s] w (FinIs w.heap.size (rfileL (bts s)) w) :=
  qparse_walk s w 5000000 hs (qexpr_rec (R := ⟨w.heap.size, strm (bts s) 0, false⟩) (N := 5000000) 200 0 rfl) (Gr.expr 200 true) (fit_start s hs)
theorem qExpression_any (s : ByteArray) (w : World) (hs : s.size ≤ 1050000) : Calls Tryz.prog 15 #[.string s] w (FinIs w.heap.size (rexL (bts s)) w) :=
  qexpression_walk s w 5000000 hs (qexpr_rec (R := ⟨w.heap.size, strm (bts s) 0, true⟩) (N := 5000000) 200 0 rfl) (fit_start s hs)
theorem erV_eq (a : List Tok) (dp : Bool) : erV a dp = .iface 92 (.agg #[.int .i64 (erC dp), .int .i64 (pos a : Int)]) := by
  cases a <;> rfl
theorem own_max {W : World} {base n sz : Nat} {e : TypeId} {v : Value} {xs : List Value} (h : W.ownsRow base e sz v n xs) : n ≤ maxLen := by
  rcases h.2 with ⟨-, h0⟩ | ⟨g, cap, cur, -, -, -, h1, h2, -⟩
  · rw [h0]; exact Nat.zero_le _
  · exact Nat.le_trans h1 h2
theorem FileIn.own {W : World} {rv nv cv : Value} {qs : List Value} {rs : List (List Nat × Nat × Int)} {f : MF} {base : Nat} {t1 t2 : TypeId} (h1 : NRow base nv f.nodes qs W) (h2 : W.ownsRow base t1 2 cv f.calls.length (namesC f.calls)) (h3 : W.ownsRow base t2 3 rv rs.length (defsC rs)) : FileIn W rv nv cv rs f :=
  FileIn.of h1 h2 h3 (own_max h3) (own_max h2) (own_max h1.2.1) fun n hn => by
    obtain ⟨i, hi⟩ := List.getElem?_of_mem hn
    have hl := (List.getElem?_eq_some_iff.1 hi).1
    obtain ⟨q, hq⟩ : ∃ q, qs[i]? = some q := ⟨_, List.getElem?_eq_getElem (by rw [h1.1]; exact hl)⟩
    exact own_max (h1.2.2 i n q hi hq)
/-- A file that one of both returns. -/
def GotF (W : World) (va : Option Addr) (vc : Nat) (na : Option Addr) (nc : Nat) (ca : Option Addr) (cc : Nat) (rs : List (List Nat × Nat × Int)) (f : MF) : Prop := FileIn W (.slice va rs.length vc) (.slice na f.nodes.length nc) (.slice ca f.calls.length cc) rs f
theorem GotF.below {W W' : World} {va : Option Addr} {vc : Nat} {na : Option Addr} {nc : Nat} {ca : Option Addr} {cc : Nat} {rs : List (List Nat × Nat × Int)} {f : MF} (h : GotF W va vc na nc ca cc rs f) (hb : Below W.heap.size W W') : GotF W' va vc na nc ca cc rs f := FileIn.below h hb
theorem parse_ok {w w' : World} {e : Ending} {rs : List (List Nat × Nat × Int)} {f : MF} (h : ParseIs (.ok rs f) w e w') : ∃ va vc na nc ca cc, e = .returned (.tuple #[.agg #[.slice va rs.length vc, .slice na f.nodes.length nc, .slice ca f.calls.length cc], .nilIface]) ∧ GotF w' va vc na nc ca cc rs f ∧ Below w.heap.size w w' := by
  obtain ⟨rv, nv, cv, qs, rfl, h1, h2, h3, h4⟩ := h
  have hf := FileIn.own h1 h2 h3
  obtain ⟨va, vc, rfl⟩ := own_slice' h3
  obtain ⟨na, nc, rfl⟩ := own_slice' h1.2.1
  obtain ⟨ca, cc, rfl⟩ := own_slice' h2
  exact ⟨va, vc, na, nc, ca, cc, rfl, hf, h4⟩
theorem parse_bad {w w' : World} {e : Ending} {a : List Tok} {dp : Bool} (h : ParseIs (.bad a dp) w e w') : e = .returned (.tuple #[.agg #[.slice none 0 0, .slice none 0 0, .slice none 0 0], .iface 92 (.agg #[.int .i64 (erC dp), .int .i64 (pos a : Int)])]) ∧ Below w.heap.size w w' := by
  obtain ⟨h1, h2⟩ := h
  rw [erV_eq] at h1
  exact ⟨h1, h2⟩
theorem fin_ok' {base : Nat} {w w' : World} {e : Ending} {rs : List (List Nat × Nat × Int)} {f : MF} (h : FinIs base (.ok rs f) w e w') : ∃ va vc na nc ca cc, e = .returned (.tuple #[.agg #[.slice va rs.length vc, .slice na f.nodes.length nc, .slice ca f.calls.length cc], .int .i64 0, .int .i64 0]) ∧ GotF w' va vc na nc ca cc rs f ∧ Below w.heap.size w w' := by
  obtain ⟨va, vc, na, nc, ca, cc, qs, rfl, h1, h2, h3, h4⟩ := h
  exact ⟨va, vc, na, nc, ca, cc, rfl, FileIn.own h1 h2 h3, h4⟩
theorem fin_bad' {base : Nat} {w w' : World} {e : Ending} {a : List Tok} {dp : Bool} (h : FinIs base (.bad a dp) w e w') : e = .returned (.tuple #[.agg #[.slice none 0 0, .slice none 0 0, .slice none 0 0], .int .i64 (erC dp), .int .i64 (pos a : Int)]) ∧ Below w.heap.size w w' := h
theorem nil_file (W : World) : FileIn W (.slice none 0 0) (.slice none 0 0) (.slice none 0 0) [] ⟨[], []⟩ :=
  ⟨⟨Nat.zero_le _, Nat.zero_le _⟩, ⟨none, 0, rfl, Nat.le_refl _, .inl rfl⟩, ⟨Nat.zero_le _, none, 0, rfl, .inl rfl⟩, ⟨none, 0, rfl, Nat.le_refl _, .inl rfl⟩⟩
/-- What back makes of a file that is one. -/
theorem back_same {w w' : World} {rs : List (List Nat × Nat × Int)} {f : MF} {rv nv cv : Value} {e : Ending} (h : FileIn w rv nv cv rs f) (k : BackF w rs f nv e w') : ∃ va vc ca cc, e = .returned (.agg #[.slice va rs.length vc, nv, .slice ca f.calls.length cc]) ∧ FileIn w' (.slice va rs.length vc) nv (.slice ca f.calls.length cc) rs f ∧ Below w.heap.size w w' := by
  obtain ⟨rv', cv', rfl, h1, h2, h3⟩ := k
  obtain ⟨va, vc, rfl⟩ := own_slice' h1
  obtain ⟨ca, cc, rfl⟩ := own_slice' h2
  exact ⟨va, vc, ca, cc, rfl, ⟨h.1, CellsAt.of_own h1, h.2.2.1.kept h3 (Nat.le_refl _), CellsAt.of_own h2⟩, h3⟩
end
end Go.Proofs.YtmjnbapkpcfgcaaGreatDoor
