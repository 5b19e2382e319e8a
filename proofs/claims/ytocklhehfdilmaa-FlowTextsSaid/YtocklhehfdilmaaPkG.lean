/- A law for a statement whose order Go leaves open, and that holds calls: it is enough to say of each operation what its result is like in every world, and that t -/
import Derived.Orders
import Derived.Below
import Derived.RowKit
namespace Go.Proofs.Ytocklhehfdilmaa
open Go.RowKit
/-- operation o waits for operation k, whose result lies in slot d -/
def depB (l : List Oper) (o : Oper) (k : Nat) (d : Tmp) : Bool := (o.after.any fun e => e.on == k && Region.binds .any e) && ((l[k]?).bind (·.dst) == some d)
/-- what is owed for one operation -/
def StepOk (P : Program) (l : List Oper) (keep : List Tmp) (a0 : Act) (T : Nat → Value → World → Prop) (S : World → Prop) (Q : Exit → Act → World → Prop) (i : Nat) (o : Oper) : Prop :=
  ∀ (a : Act) (w : World), S w → (∀ t, t ∈ keep → a.eval (.tmp t) = a0.eval (.tmp t)) → (∀ k d, depB l o k d = true → T k (a.eval (.tmp d)) w) →
    if Region.wanted o (yielded l.toArray a.tmps) then o.wp P a w (fun a' w' => ∃ v, a' = a.put o.dst v ∧ T i v w' ∧ Below w.heap.size w w' ∧ S w') Q else T i undef w
def StepsOk (P : Program) (l : List Oper) (keep : List Tmp) (a0 : Act) (T : Nat → Value → World → Prop) (S : World → Prop) (Q : Exit → Act → World → Prop) : Nat → List Oper → Prop
  | _, [] => True
  | i, o :: r => StepOk P l keep a0 T S Q i o ∧ StepsOk P l keep a0 T S Q (i + 1) r
theorem StepsOk.at {P : Program} {l : List Oper} {keep : List Tmp} {a0 : Act} {T : Nat → Value → World → Prop} {S : World → Prop} {Q : Exit → Act → World → Prop} :
    ∀ {r : List Oper} {i : Nat}, StepsOk P l keep a0 T S Q i r → ∀ {j : Nat} {o : Oper}, r[j]? = some o → StepOk P l keep a0 T S Q (i + j) o
  | [], _, _, _, _, h => by cases h
  | o :: r, i, h, 0, o', h' => by cases h'; exact h.1
  | o :: r, i, h, j + 1, o', h' => by rw [show i + (j + 1) = i + 1 + j from by omega]; exact h.2.at h'
end Go.Proofs.Ytocklhehfdilmaa
namespace Go.Proofs.Ytocklhehfdilmaa
open Go.RowKit
/-- operation j waits for operation i -/
def waitsB (l : List Oper) (j i : Nat) : Bool := match l[j]? with
  | some o => o.after.any fun e => e.on == i && Region.binds .any e
  | none => false
/-- what is owed for one operation -/
def StepOn (P : Program) (l : List Oper) (keep : List Tmp) (a0 : Act) (T : Nat → Value → World → Prop) (R : World → World → Prop) (S : (Nat → Bool) → World → Prop) (Q : Exit → Act → World → Prop) (i : Nat) (o : Oper) : Prop :=
  ∀ (L : Nat → Bool) (a : Act) (w : World), L i = false → (∀ j, waitsB l j i = true → L j = false) → S L w → (∀ t, t ∈ keep → a.eval (.tmp t) = a0.eval (.tmp t)) → (∀ k d, depB l o k d = true → T k (a.eval (.tmp d)) w) →
    if Region.wanted o (yielded l.toArray a.tmps) then o.wp P a w (fun a' w' => ∃ v, a' = a.put o.dst v ∧ T i v w' ∧ R w w' ∧ S (fun k => if k = i then true else L k) w') Q else T i undef w ∧ R w w ∧ S (fun k => if k = i then true else L k) w
def StepsOn (P : Program) (l : List Oper) (keep : List Tmp) (a0 : Act) (T : Nat → Value → World → Prop) (R : World → World → Prop) (S : (Nat → Bool) → World → Prop) (Q : Exit → Act → World → Prop) : Nat → List Oper → Prop
  | _, [] => True
  | i, o :: r => StepOn P l keep a0 T R S Q i o ∧ StepsOn P l keep a0 T R S Q (i + 1) r
theorem StepsOn.at {P : Program} {l : List Oper} {keep : List Tmp} {a0 : Act} {T : Nat → Value → World → Prop} {R : World → World → Prop} {S : (Nat → Bool) → World → Prop} {Q : Exit → Act → World → Prop} :
    ∀ {r : List Oper} {i : Nat}, StepsOn P l keep a0 T R S Q i r → ∀ {j : Nat} {o : Oper}, r[j]? = some o → StepOn P l keep a0 T R S Q (i + j) o
  | [], _, _, _, _, h => by cases h
  | o :: r, i, h, 0, o', h' => by cases h'; exact h.1
  | o :: r, i, h, j + 1, o', h' => by rw [show i + (j + 1) = i + 1 + j from by omega]; exact h.2.at h'
end Go.Proofs.Ytocklhehfdilmaa
