/- A law for a statement whose order Go leaves open, and that holds calls: it is enough to say of each operation what its result is like in every world, and that t -/
import Derived.Orders
import Derived.Below
import Derived.RowKit
namespace Go.Proofs.Ytocklhehfdilmaa
open Go.RowKit
def fill : List Oper → Nat → (Nat → Bool) → (Nat → Value) → Act → Act
  | [], _, _, _, a => a
  | o :: r, i, L, vals, a => fill r (i + 1) L vals (if L i then a.put o.dst (vals i) else a)
def apartB : List Oper → Bool
  | [] => true
  | o :: r => (r.all fun o' => o.dst.isNone || o'.dst != o.dst) && apartB r
theorem fill_congr : ∀ (l : List Oper) (i : Nat) (L L' : Nat → Bool) (vals vals' : Nat → Value) (a : Act), (∀ k, i ≤ k → L k = L' k ∧ vals k = vals' k) → fill l i L vals a = fill l i L' vals' a
  | [], _, _, _, _, _, _, _ => rfl
  | o :: r, i, L, L', vals, vals', a, h => by
    unfold fill
    rw [(h i (Nat.le_refl _)).1, (h i (Nat.le_refl _)).2]
    exact fill_congr r (i + 1) L L' vals vals' _ fun k hk => h k (by omega)
theorem fill_put : ∀ (l : List Oper) (i : Nat) (L : Nat → Bool) (vals : Nat → Value) (a : Act) (d : Option Tmp) (v : Value), (∀ o, o ∈ l → d = none ∨ o.dst ≠ d) → (fill l i L vals a).put d v = fill l i L vals (a.put d v)
  | [], _, _, _, _, _, _, _ => rfl
  | o :: r, i, L, vals, a, d, v, h => by
    unfold fill
    rw [fill_put r (i + 1) L vals _ d v fun o' ho => h o' (List.mem_cons.2 (Or.inr ho))]
    congr 1
    split
    · rcases h o (List.mem_cons.2 (Or.inl rfl)) with rfl | hne
      · rfl
      · exact Act.put_comm a (vals i) v (fun t ht he => hne (by rw [ht, he]))
    · rfl
theorem apart_head {o : Oper} {r : List Oper} (h : apartB (o :: r) = true) : (∀ o', o' ∈ r → o.dst = none ∨ o'.dst ≠ o.dst) ∧ apartB r = true := by
  unfold apartB at h
  rw [Bool.and_eq_true] at h
  refine ⟨fun o' ho => ?_, h.2⟩
  have := List.all_eq_true.1 h.1 o' ho
  rw [Bool.or_eq_true] at this
  rcases this with h1 | h1
  · exact .inl (by cases hd : o.dst with | none => rfl | some d => rw [hd] at h1; cases h1)
  · exact .inr (by simpa using h1)
theorem fill_set : ∀ (l : List Oper) (i j : Nat) (o : Oper) (L : Nat → Bool) (vals : Nat → Value) (a : Act) (v : Value), apartB l = true → l[j]? = some o → L (i + j) = false →
    (fill l i L vals a).put o.dst v = fill l i (fun k => if k = i + j then true else L k) (fun k => if k = i + j then v else vals k) a
  | [], _, _, _, _, _, _, _, _, h, _ => by cases h
  | o' :: r, i, 0, o, L, vals, a, v, ha, h, hL => by
    cases h
    obtain ⟨h1, -⟩ := apart_head ha
    rw [Nat.add_zero] at hL
    unfold fill
    rw [hL]
    simp only [Bool.false_eq_true, if_false, Nat.add_zero, if_true]
    rw [fill_put r (i + 1) L vals a _ v h1]
    exact fill_congr _ _ _ _ _ _ _ fun k hk => by rw [if_neg (by omega), if_neg (by omega)]; exact ⟨rfl, rfl⟩
  | o' :: r, i, j + 1, o, L, vals, a, v, ha, h, hL => by
    obtain ⟨-, h2⟩ := apart_head ha
    unfold fill
    have hi : (i = i + (j + 1)) = False := by simp
    simp only [hi, if_false]
    rw [show i + (j + 1) = i + 1 + j from by omega] at hL ⊢
    exact fill_set r (i + 1) j o L vals _ v h2 h hL
theorem put_size (a : Act) (d : Option Tmp) (v : Value) : (a.put d v).tmps.size = a.tmps.size := by cases d <;> simp [Act.put]
theorem fill_eval_other : ∀ (l : List Oper) (i : Nat) (L : Nat → Bool) (vals : Nat → Value) (a : Act) (t : Tmp), (∀ o, o ∈ l → o.dst ≠ some t) → (fill l i L vals a).eval (.tmp t) = a.eval (.tmp t)
  | [], _, _, _, _, _, _ => rfl
  | o :: r, i, L, vals, a, t, h => by
    unfold fill
    rw [fill_eval_other r (i + 1) L vals _ t fun o' ho => h o' (List.mem_cons.2 (Or.inr ho))]
    split
    · exact Act.eval_put fun d hd he => h o (List.mem_cons.2 (Or.inl rfl)) (by injection he with he; rw [hd, he])
    · rfl
theorem fill_eval : ∀ (l : List Oper) (i j : Nat) (o : Oper) (d : Tmp) (L : Nat → Bool) (vals : Nat → Value) (a : Act), apartB l = true → l[j]? = some o → o.dst = some d → L (i + j) = true → d < a.tmps.size →
    (fill l i L vals a).eval (.tmp d) = vals (i + j)
  | [], _, _, _, _, _, _, _, _, h, _, _, _ => by cases h
  | o' :: r, i, 0, o, d, L, vals, a, ha, h, hd, hL, hs => by
    cases h
    obtain ⟨h1, -⟩ := apart_head ha
    rw [Nat.add_zero] at hL ⊢
    unfold fill
    rw [hL, if_pos rfl, fill_eval_other r (i + 1) L vals _ d fun o'' ho he => (h1 o'' ho).elim (fun h => by rw [hd] at h; cases h) (fun h => h (by rw [hd, he]))]
    rw [hd]
    simp [Act.eval, Act.put, hs]
  | o' :: r, i, j + 1, o, d, L, vals, a, ha, h, hd, hL, hs => by
    obtain ⟨-, h2⟩ := apart_head ha
    unfold fill
    rw [show i + (j + 1) = i + 1 + j from by omega] at hL ⊢
    refine fill_eval r (i + 1) j o d L vals _ h2 h hd hL ?_
    split
    · rw [put_size]; exact hs
    · exact hs
/-- operation o waits for operation k, whose result lies in slot d -/
def depB (l : List Oper) (o : Oper) (k : Nat) (d : Tmp) : Bool := (o.after.any fun e => e.on == k && Region.binds .any e) && ((l[k]?).bind (·.dst) == some d)
/-- what is owed for one operation -/
def StepOk (P : Program) (l : List Oper) (keep : List Tmp) (a0 : Act) (T : Nat → Value → World → Prop) (S : World → Prop) (Q : Exit → Act → World → Prop) (i : Nat) (o : Oper) : Prop :=
  ∀ (a : Act) (w : World), S w → (∀ t, t ∈ keep → a.eval (.tmp t) = a0.eval (.tmp t)) → (∀ k d, depB l o k d = true → T k (a.eval (.tmp d)) w) →
    if Region.wanted o (yielded l.toArray a.tmps) then o.wp P a w (fun a' w' => ∃ v, a' = a.put o.dst v ∧ T i v w' ∧ Below w.heap.size w w' ∧ S w') Q else T i undef w
def StepsOk (P : Program) (l : List Oper) (keep : List Tmp) (a0 : Act) (T : Nat → Value → World → Prop) (S : World → Prop) (Q : Exit → Act → World → Prop) : Nat → List Oper → Prop
  | _, [] => True
  | i, o :: r => StepOk P l keep a0 T S Q i o ∧ StepsOk P l keep a0 T S Q (i + 1) r
theorem StepsOk.at {P : Program} {l : List Oper} {keep : List Tmp} {a0 : Act} {T : Nat → Value → World → Prop} {S : World → Prop} {Q : Exit → Act → World → Prop} :
    ∀ {r : List Oper} {i : Nat}, StepsOk P l keep a0 T S Q i r → ∀ {j : Nat} {o : Oper}, r[j]? = some o → StepOk P l keep a0 T S Q (i + j) o
  | [], _, _, _, _, h => by cases h
  | o :: r, i, h, 0, o', h' => by cases h'; exact h.1
  | o :: r, i, h, j + 1, o', h' => by rw [show i + (j + 1) = i + 1 + j from by omega]; exact h.2.at h'
theorem wpAny_inv {P : Program} {md : Region.Mode} {ops : Array Oper} {Q : Exit → Act → World → Prop} (I : Array Bool → Act → World → Prop)
    (hstep : ∀ listed a w i o, ops[i]? = some o → i ∈ Region.ready md ops listed → I listed a w → wpOp P ops Q i (I (listed.setIfInBounds i true)) a w)
    (hdone : ∀ listed a w, Region.ready md ops listed = [] → I listed a w → Q .normal a w) :
    ∀ (fuel : Nat) (listed : Array Bool) (a : Act) (w : World), (listed.toList.filter fun b => !b).length ≤ fuel → listed.size = ops.size → I listed a w → wpAny P md ops Q fuel listed a w
  | 0, listed, a, w, hf, hs, hI => by
    have hr : Region.ready md ops listed = [] := by
      rw [List.eq_nil_iff_forall_not_mem]
      intro j hj
      obtain ⟨h1, o, ho, -⟩ := mem_ready.1 hj
      have hj' : j < listed.size := by rw [hs]; exact (Array.getElem?_eq_some_iff.1 ho).1
      have hm : false ∈ listed.toList.filter fun b => !b := by
        rw [List.mem_filter]
        refine ⟨?_, rfl⟩
        rw [Array.getD_eq_getD_getElem?, Array.getElem?_eq_getElem hj'] at h1
        have h1 : listed[j] = false := h1
        rw [← h1]; simp
      have := List.length_pos_of_mem hm
      omega
    exact ⟨hr, hdone _ _ _ hr hI⟩
  | fuel + 1, listed, a, w, hf, hs, hI => by
    refine ⟨fun hr => hdone _ _ _ hr hI, fun i hi => ?_⟩
    obtain ⟨h1, o, ho, -⟩ := mem_ready.1 hi
    have hj' : i < listed.size := by rw [hs]; exact (Array.getElem?_eq_some_iff.1 ho).1
    refine wpOp_mono (fun a' w' h => ?_) (hstep listed a w i o ho hi hI)
    refine wpAny_inv I hstep hdone fuel _ a' w' ?_ (by simpa using hs) h
    rw [Array.getD_eq_getD_getElem?, Array.getElem?_eq_getElem hj'] at h1
    have h1 : listed[i] = false := h1
    rw [Array.toList_setIfInBounds]
    have key : ∀ (l : List Bool) (i : Nat), l[i]? = some false → ((l.set i true).filter fun b => !b).length + 1 = (l.filter fun b => !b).length := by
      intro l
      induction l with
      | nil => intro i h; cases h
      | cons b l ih =>
        intro i h
        cases i with
        | zero => cases h; simp
        | succ i => have := ih i h; cases b <;> simp at this ⊢ <;> omega
    have := key listed.toList i (by rw [Array.getElem?_toList, Array.getElem?_eq_getElem hj', h1])
    omega
/-- every edge leads back -/
def backB : List Oper → Nat → Bool
  | [], _ => true
  | o :: r, i => (o.after.all fun e => decide (e.on < i)) && backB r (i + 1)
theorem backB_at : ∀ {l : List Oper} {i : Nat}, backB l i = true → ∀ {j : Nat} {o : Oper}, l[j]? = some o → ∀ e, e ∈ o.after → e.on < i + j
  | [], _, _, _, _, h => by cases h
  | o :: r, i, h, 0, o', h' => by
    cases h'
    unfold backB at h
    rw [Bool.and_eq_true] at h
    intro e he
    have := Array.all_eq_true'.1 h.1 e he
    simpa using this
  | o :: r, i, h, j + 1, o', h' => by
    unfold backB at h
    rw [Bool.and_eq_true] at h
    intro e he
    have := backB_at h.2 h' e he
    omega
theorem all_listed {l : List Oper} {listed : Array Bool} (hb : backB l 0 = true) (hr : Region.ready .any l.toArray listed = []) (hs : listed.size = l.length) : ∀ k, k < l.length → listed.getD k false = true := by
  intro k
  induction k using Nat.strongRecOn with
  | _ k ih =>
    intro hk
    cases hl : listed.getD k false with
    | true => rfl
    | false =>
      exfalso
      have hm : k ∈ Region.ready .any l.toArray listed := by
        refine mem_ready.2 ⟨?_, l[k], by simp [hk], fun e he _ => ?_⟩
        · rw [Array.getD_eq_getD_getElem?, Array.getElem?_eq_getElem (by omega)] at hl ⊢; exact hl
        · have := backB_at hb (List.getElem?_eq_getElem hk) e he
          exact ih e.on (by omega) (by omega)
      rw [hr] at hm; cases hm
/- how single operations pay what is owed -/
theorem wanted_of {l : List Oper} {o : Oper} {a : Act} {j : Nat} {b : Bool} {d : Tmp} (hg : o.guard = some (j, b)) (hd : (l[j]?).bind (·.dst) = some d) (hv : a.eval (.tmp d) = .bool b) : Region.wanted o (yielded l.toArray a.tmps) = true := by
  have hget : a.tmps[d]? = some (.bool b) := by
    simp only [Act.eval, Array.getD_eq_getD_getElem?] at hv
    cases h : a.tmps[d]? with
    | none => rw [h] at hv; cases hv
    | some x => rw [h] at hv; exact congrArg some hv
  have hy : yielded l.toArray a.tmps j = some b := by
    unfold yielded
    rw [List.getElem?_toArray, hd]
    simp only [Option.bind_some, hget]
  unfold Region.wanted
  rw [hg]
  simp [hy]
theorem pay_plain {P : Program} {l : List Oper} {o : Oper} {a : Act} {w : World} {R : Act → World → Prop} {Q : Exit → Act → World → Prop} {X : Prop} (hg : o.guard = none) (h : o.wp P a w R Q) :
    if Region.wanted o (yielded l.toArray a.tmps) = true then o.wp P a w R Q else X := by
  rw [if_pos (by simp [Region.wanted, hg])]; exact h
theorem pay_guard {P : Program} {l : List Oper} {o : Oper} {a : Act} {w : World} {R : Act → World → Prop} {Q : Exit → Act → World → Prop} {X : Prop} {j : Nat} {b : Bool} {d : Tmp} (hg : o.guard = some (j, b)) (hd : (l[j]?).bind (·.dst) = some d) (hv : a.eval (.tmp d) = .bool b) (h : o.wp P a w R Q) :
    if Region.wanted o (yielded l.toArray a.tmps) = true then o.wp P a w R Q else X := by
  rw [if_pos (wanted_of hg hd hv)]; exact h
end Go.Proofs.Ytocklhehfdilmaa
namespace Go.Proofs.Ytocklhehfdilmaa
open Go.RowKit
/-- operation j waits for operation i -/
def waitsB (l : List Oper) (j i : Nat) : Bool := match l[j]? with
  | some o => o.after.any fun e => e.on == i && Region.binds .any e
  | none => false
/-- what is owed for one operation -/
def StepOn (P : Program) (l : List Oper) (keep : List Tmp) (a0 : Act) (T : Nat → Value → World → Prop) (R : World → World → Prop) (S : (Nat → Bool) → World → Prop) (Q : Exit → Act → World → Prop) (i : Nat) (o : Oper) : Prop :=
  ∀ (L : Nat → Bool) (a : Act) (w : World), L i = false → (∀ j, waitsB l j i = true → L j = false) → S L w → (∀ t, t ∈ keep → a.eval (.tmp t) = a0.eval (.tmp t)) → (∀ k d, depB l o k d = true → T k (a.eval (.tmp d)) w) →
    if Region.wanted o (yielded l.toArray a.tmps) then o.wp P a w (fun a' w' => ∃ v, a' = a.put o.dst v ∧ T i v w' ∧ R w w' ∧ S (fun k => if k = i then true else L k) w') Q else T i undef w ∧ R w w ∧ S (fun k => if k = i then true else L k) w
def StepsOn (P : Program) (l : List Oper) (keep : List Tmp) (a0 : Act) (T : Nat → Value → World → Prop) (R : World → World → Prop) (S : (Nat → Bool) → World → Prop) (Q : Exit → Act → World → Prop) : Nat → List Oper → Prop
  | _, [] => True
  | i, o :: r => StepOn P l keep a0 T R S Q i o ∧ StepsOn P l keep a0 T R S Q (i + 1) r
theorem StepsOn.at {P : Program} {l : List Oper} {keep : List Tmp} {a0 : Act} {T : Nat → Value → World → Prop} {R : World → World → Prop} {S : (Nat → Bool) → World → Prop} {Q : Exit → Act → World → Prop} :
    ∀ {r : List Oper} {i : Nat}, StepsOn P l keep a0 T R S Q i r → ∀ {j : Nat} {o : Oper}, r[j]? = some o → StepOn P l keep a0 T R S Q (i + j) o
  | [], _, _, _, _, h => by cases h
  | o :: r, i, h, 0, o', h' => by cases h'; exact h.1
  | o :: r, i, h, j + 1, o', h' => by rw [show i + (j + 1) = i + 1 + j from by omega]; exact h.2.at h'
theorem pay_skip {P : Program} {l : List Oper} {o : Oper} {a : Act} {w : World} {R : Act → World → Prop} {Q : Exit → Act → World → Prop} {X : Prop} {j : Nat} {b b' : Bool} {d : Tmp} (hg : o.guard = some (j, b)) (hd : (l[j]?).bind (·.dst) = some d) (hv : a.eval (.tmp d) = .bool b') (hne : b' ≠ b) (h : X) :
    if Region.wanted o (yielded l.toArray a.tmps) = true then o.wp P a w R Q else X := by
  have hget : a.tmps[d]? = some (.bool b') := by
    simp only [Act.eval, Array.getD_eq_getD_getElem?] at hv
    cases h : a.tmps[d]? with
    | none => rw [h] at hv; cases hv
    | some x => rw [h] at hv; exact congrArg some hv
  have hy : yielded l.toArray a.tmps j = some b' := by
    unfold yielded
    rw [List.getElem?_toArray, hd]
    simp only [Option.bind_some, hget]
  have hw : Region.wanted o (yielded l.toArray a.tmps) = false := by
    unfold Region.wanted
    rw [hg]
    simp [hy, hne]
  rw [hw]; simpa using h
theorem on_value {P : Program} {o : Oper} {a : Act} {w : World} {T : Nat → Value → World → Prop} {i : Nat} {R : World → World → Prop} {S : World → Prop} {Q : Exit → Act → World → Prop} (v : Value) (hv : (execOp a.eval o).run P w = .ok (.value v) w) (hT : T i v w) (hR : R w w) (hS : S w) :
    o.wp P a w (fun a' w' => ∃ v, a' = a.put o.dst v ∧ T i v w' ∧ R w w' ∧ S w') Q := by
  unfold Oper.wp
  rw [hv]
  exact ⟨v, rfl, hT, hR, hS⟩
end Go.Proofs.Ytocklhehfdilmaa
