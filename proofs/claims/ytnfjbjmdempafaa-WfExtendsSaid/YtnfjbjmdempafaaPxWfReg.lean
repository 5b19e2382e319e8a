/- A law for a drawn region that assigns at its end a variable that it reads; the table of WfPaths's region. Written by wip/gen/wfreg.py. -/
import Derived.Test.YtnfjbjmdempafaaPxA
namespace Go.Proofs.Ytnfjbjmdempafaa
section
open Go.RowKit
theorem fill_eval_un : ∀ (l : List Oper) (i : Nat) (L : Nat → Bool) (vals : Nat → Value) (a : Act) (t : Tmp), (∀ j o, l[j]? = some o → o.dst = some t → L (i + j) = false) → (fill l i L vals a).eval (.tmp t) = a.eval (.tmp t)
  | [], _, _, _, _, _, _ => rfl
  | o :: r, i, L, vals, a, t, h => by
    unfold fill
    rw [fill_eval_un r (i + 1) L vals _ t fun j o' h1 h2 => by rw [show i + 1 + j = i + (j + 1) from by omega]; exact h (j + 1) o' (by simpa using h1) h2]
    split
    · rename_i hL
      refine Act.eval_put fun d hd he => ?_
      have := h 0 o rfl (by injection he with he; rw [hd, he])
      rw [Nat.add_zero, hL] at this
      cases this
    · rfl
theorem un_none {l : List Oper} {t : Tmp} {L : Nat → Bool} (h : (l.all fun o => o.dst != some t) = true) : ∀ j o, l[j]? = some o → o.dst = some t → L j = false := fun j o h1 h2 => by
  have := List.all_eq_true.1 h o (List.mem_of_getElem? h1)
  rw [h2] at this
  simp at this
/-- what is owed for one operation -/
def StepUn (P : Program) (l : List Oper) (a0 : Act) (T : Nat → Value → World → Prop) (R : World → World → Prop) (S : (Nat → Bool) → World → Prop) (Q : Exit → Act → World → Prop) (i : Nat) (o : Oper) : Prop :=
  ∀ (L : Nat → Bool) (a : Act) (w : World), L i = false → (∀ j, waitsB l j i = true → L j = false) → S L w → (∀ t, (∀ j o, l[j]? = some o → o.dst = some t → L j = false) → a.eval (.tmp t) = a0.eval (.tmp t)) → (∀ k d, depB l o k d = true → T k (a.eval (.tmp d)) w) →
    if Region.wanted o (yielded l.toArray a.tmps) then o.wp P a w (fun a' w' => ∃ v, a' = a.put o.dst v ∧ T i v w' ∧ R w w' ∧ S (fun k => if k = i then true else L k) w') Q else T i undef w ∧ R w w ∧ S (fun k => if k = i then true else L k) w
def StepsUn (P : Program) (l : List Oper) (a0 : Act) (T : Nat → Value → World → Prop) (R : World → World → Prop) (S : (Nat → Bool) → World → Prop) (Q : Exit → Act → World → Prop) : Nat → List Oper → Prop
  | _, [] => True
  | i, o :: r => StepUn P l a0 T R S Q i o ∧ StepsUn P l a0 T R S Q (i + 1) r
theorem StepsUn.at {P : Program} {l : List Oper} {a0 : Act} {T : Nat → Value → World → Prop} {R : World → World → Prop} {S : (Nat → Bool) → World → Prop} {Q : Exit → Act → World → Prop} :
    ∀ {r : List Oper} {i : Nat}, StepsUn P l a0 T R S Q i r → ∀ {j : Nat} {o : Oper}, r[j]? = some o → StepUn P l a0 T R S Q (i + j) o
  | [], _, _, _, _, h => by cases h
  | o :: r, i, h, 0, o', h' => by cases h'; exact h.1
  | o :: r, i, h, j + 1, o', h' => by rw [show i + (j + 1) = i + 1 + j from by omega]; exact h.2.at h'
end
end Go.Proofs.Ytnfjbjmdempafaa
