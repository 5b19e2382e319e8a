/- The reference's Node at a sequence or a choice: what its loops know. -/
import Derived.Deep.Cut
import Derived.Test.YtnfjbjmdempafaaPxFlowRN
namespace Go.Proofs.Ytnfjbjmdempafaa
open Go.RowKit
def okK (p : Int → Fc) (ks : List Int) (m : Nat) : Bool := (ks.take m).all fun x => (p x).ok
def faK (p : Int → Fc) (ks : List Int) (m : Nat) : Bool := (ks.take m).all fun x => (p x).fai
def sqK (p : Int → Fc) (ks : List Int) (k : Nat) : Fc × Bool := ((ks.take k).map p).foldl seqS (⟨true, false, false⟩, true)
def chK (p : Int → Fc) (ks : List Int) (k : Nat) : Fc := ((ks.take k).map p).foldl choS ⟨false, false, true⟩
theorem okK_succ {p : Int → Fc} {ks : List Int} {m : Nat} {x : Int} (h : ks[m]? = some x) : okK p ks (m + 1) = (okK p ks m && (p x).ok) := by
  unfold okK; rw [take_snoc' ks m x h, List.all_append]; simp
theorem faK_succ {p : Int → Fc} {ks : List Int} {m : Nat} {x : Int} (h : ks[m]? = some x) : faK p ks (m + 1) = (faK p ks m && (p x).fai) := by
  unfold faK; rw [take_snoc' ks m x h, List.all_append]; simp
theorem sqK_succ {p : Int → Fc} {ks : List Int} {m : Nat} {x : Int} (h : ks[m]? = some x) : sqK p ks (m + 1) = seqS (sqK p ks m) (p x) := by
  unfold sqK; rw [take_snoc' ks m x h, List.map_append, List.foldl_append]; rfl
theorem chK_succ {p : Int → Fc} {ks : List Int} {m : Nat} {x : Int} (h : ks[m]? = some x) : chK p ks (m + 1) = choS (chK p ks m) (p x) := by
  unfold chK; rw [take_snoc' ks m x h, List.map_append, List.foldl_append]; rfl
theorem sqK_ok (p : Int → Fc) (ks : List Int) (m : Nat) : (sqK p ks m).2 = okK p ks m := by
  have key : ∀ (l : List Int) (s : Fc × Bool), ((l.map p).foldl seqS s).2 = (s.2 && l.all fun x => (p x).ok) := by
    intro l
    induction l with
    | nil => intro s; simp
    | cons x t ih => intro s; show ((t.map p).foldl seqS (seqS s (p x))).2 = _; rw [ih]; show (s.2 && (p x).ok && _) = _; rw [Bool.and_assoc]; rfl
  unfold sqK okK; rw [key]; simp
theorem chK_fai (p : Int → Fc) (ks : List Int) (m : Nat) : (chK p ks m).fai = faK p ks m := by
  have key : ∀ (l : List Int) (s : Fc), ((l.map p).foldl choS s).fai = (s.fai && l.all fun x => (p x).fai) := by
    intro l
    induction l with
    | nil => intro s; simp
    | cons x t ih => intro s; show ((t.map p).foldl choS (choS s (p x))).fai = _; rw [ih]; show (s.fai && (p x).fai && _) = _; rw [Bool.and_assoc]; rfl
  unfold chK faK; rw [key]; simp
theorem FactsAt.open {w : World} {a : Option Addr} {n c : Nat} {l : List Fc} (h : FactsAt w (.slice a n c) l) (h0 : 0 < l.length) : ∃ b off, a = some ⟨b, off, none⟩ ∧ ∀ i f, l[i]? = some f → FactAt w b (off + i * 3) f := by
  obtain ⟨-, a', c', e, h⟩ := h
  injection e with e1 e2 e3
  subst e1
  rcases h with h | ⟨b, off, rfl, hc⟩
  · rw [h] at h0; exact absurd h0 (Nat.lt_irrefl _)
  · exact ⟨b, off, rfl, hc⟩
/-- What the loops carry: the result, the node, the facts so far. -/
def RnAt (w : World) (nv : Array Value) (s : Fc) (W : World) : Prop := Below w.heap.size w W ∧ Bl W (w.heap.size + 1) 37 #[.bool false, .bool false, .bool false] ∧ Bl W (w.heap.size + 1 + 1) 35 nv ∧ Bl W (w.heap.size + 1 + 1 + 1) 37 #[.bool s.nul, .bool s.eat, .bool s.fai]
section
variable {w W W' : World} {nv : Array Value} {s : Fc}
theorem RnAt.lo (h : RnAt w nv s W) : Below w.heap.size w W := h.1
theorem RnAt.r (h : RnAt w nv s W) : Bl W (w.heap.size + 1) 37 #[.bool false, .bool false, .bool false] := h.2.1
theorem RnAt.n (h : RnAt w nv s W) : Bl W (w.heap.size + 1 + 1) 35 nv := h.2.2.1
theorem RnAt.o (h : RnAt w nv s W) : Bl W (w.heap.size + 1 + 1 + 1) 37 #[.bool s.nul, .bool s.eat, .bool s.fai] := h.2.2.2
theorem RnAt.below (h : RnAt w nv s W) (hb : Below W.heap.size W W') : RnAt w nv s W' := ⟨bl_on h.lo hb, h.r.below hb, h.n.below hb, h.o.below hb⟩
theorem RnAt.past {o : Obj} (h : RnAt w nv s W) : RnAt w nv s (W.alloc o) := h.below (one_new W o)
theorem RnAt.p0 (h : RnAt w nv s W) (b : Bool) : RnAt w nv ⟨b, s.eat, s.fai⟩ (W.setCell ⟨w.heap.size + 1 + 1 + 1, 0, none⟩ (.bool b)) := ⟨bl_put h.lo (by omega), h.r.off (by omega), h.n.off (by omega), h.o.p0 _⟩
theorem RnAt.p1 (h : RnAt w nv s W) (b : Bool) : RnAt w nv ⟨s.nul, b, s.fai⟩ (W.setCell ⟨w.heap.size + 1 + 1 + 1, 1, none⟩ (.bool b)) := ⟨bl_put h.lo (by omega), h.r.off (by omega), h.n.off (by omega), h.o.p1 _⟩
theorem RnAt.p2 (h : RnAt w nv s W) (b : Bool) : RnAt w nv ⟨s.nul, s.eat, b⟩ (W.setCell ⟨w.heap.size + 1 + 1 + 1, 2, none⟩ (.bool b)) := ⟨bl_put h.lo (by omega), h.r.off (by omega), h.n.off (by omega), h.o.p2 _⟩
end
end Go.Proofs.Ytnfjbjmdempafaa
