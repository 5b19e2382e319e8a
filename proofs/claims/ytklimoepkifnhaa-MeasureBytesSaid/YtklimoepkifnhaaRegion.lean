/- A law for a statement whose order Go leaves open, and that holds calls: it is enough to say of each operation what its result is like in every world, and that the operations before it in the text's edges suffice for that. Nothing here speaks of one program. -/
import Derived.Orders
import Derived.Below
import Derived.RowKit
namespace Go.Proofs.Ytklimoepkifnhaa
open Go.RowKit
def fill : List Oper → Nat → (Nat → Bool) → (Nat → Value) → Act → Act
  | [], _, _, _, a => a
  | o :: r, i, L, vals, a => fill r (i + 1) L vals (if L i then a.put o.dst (vals i) else a)
def apartB : List Oper → Bool
  | [] => true
  | o :: r => (r.all fun o' => o.dst.isNone || o'.dst != o.dst) && apartB r
theorem fill_congr : ∀ (l : List Oper) (i : Nat) (L L' : Nat → Bool) (vals vals' : Nat → Value) (a : Act), (∀ k, i ≤ k → L k = L' k ∧ vals k = vals' k) → fill l i L vals a = fill l i L' vals' a
  | [], _, _, _, _, _, _, _ => rfl
  | o :: r, i, L, L', vals, vals', a, h => by
    unfold fill
    rw [(h i (Nat.le_refl _)).1, (h i (Nat.le_refl _)).2]
    exact fill_congr r (i + 1) L L' vals vals' _ fun k hk => h k (by omega)
theorem fill_put : ∀ (l : List Oper) (i : Nat) (L : Nat → Bool) (vals : Nat → Value) (a : Act) (d : Option Tmp) (v : Value), (∀ o, o ∈ l → d = none ∨ o.dst ≠ d) → (fill l i L vals a).put d v = fill l i L vals (a.put d v)
  | [], _, _, _, _, _, _, _ => rfl
  | o :: r, i, L, vals, a, d, v, h => by
    unfold fill
    rw [fill_put r (i + 1) L vals _ d v fun o' ho => h o' (List.mem_cons.2 (Or.inr ho))]
    congr 1
    split
    · rcases h o (List.mem_cons.2 (Or.inl rfl)) with rfl | hne
      · rfl
      · exact Act.put_comm a (vals i) v (fun t ht he => hne (by rw [ht, he]))
    · rfl
theorem apart_head {o : Oper} {r : List Oper} (h : apartB (o :: r) = true) : (∀ o', o' ∈ r → o.dst = none ∨ o'.dst ≠ o.dst) ∧ apartB r = true := by
  unfold apartB at h
  rw [Bool.and_eq_true] at h
  refine ⟨fun o' ho => ?_, h.2⟩
  have := List.all_eq_true.1 h.1 o' ho
  rw [Bool.or_eq_true] at this
  rcases this with h1 | h1
  · exact .inl (by cases hd : o.dst with | none => rfl | some d => rw [hd] at h1; cases h1)
  · exact .inr (by simpa using h1)
theorem fill_set : ∀ (l : List Oper) (i j : Nat) (o : Oper) (L : Nat → Bool) (vals : Nat → Value) (a : Act) (v : Value), apartB l = true → l[j]? = some o → L (i + j) = false →
    (fill l i L vals a).put o.dst v = fill l i (fun k => if k = i + j then true else L k) (fun k => if k = i + j then v else vals k) a
  | [], _, _, _, _, _, _, _, _, h, _ => by cases h
  | o' :: r, i, 0, o, L, vals, a, v, ha, h, hL => by
    cases h
    obtain ⟨h1, -⟩ := apart_head ha
    rw [Nat.add_zero] at hL
    unfold fill
    rw [hL]
    simp only [Bool.false_eq_true, if_false, Nat.add_zero, if_true]
    rw [fill_put r (i + 1) L vals a _ v h1]
    exact fill_congr _ _ _ _ _ _ _ fun k hk => by rw [if_neg (by omega), if_neg (by omega)]; exact ⟨rfl, rfl⟩
  | o' :: r, i, j + 1, o, L, vals, a, v, ha, h, hL => by
    obtain ⟨-, h2⟩ := apart_head ha
    unfold fill
    have hi : (i = i + (j + 1)) = False := by simp
    simp only [hi, if_false]
    rw [show i + (j + 1) = i + 1 + j from by omega] at hL ⊢
    exact fill_set r (i + 1) j o L vals _ v h2 h hL
theorem put_size (a : Act) (d : Option Tmp) (v : Value) : (a.put d v).tmps.size = a.tmps.size := by cases d <;> simp [Act.put]
theorem fill_eval_other : ∀ (l : List Oper) (i : Nat) (L : Nat → Bool) (vals : Nat → Value) (a : Act) (t : Tmp), (∀ o, o ∈ l → o.dst ≠ some t) → (fill l i L vals a).eval (.tmp t) = a.eval (.tmp t)
  | [], _, _, _, _, _, _ => rfl
  | o :: r, i, L, vals, a, t, h => by
    unfold fill
    rw [fill_eval_other r (i + 1) L vals _ t fun o' ho => h o' (List.mem_cons.2 (Or.inr ho))]
    split
    · exact Act.eval_put fun d hd he => h o (List.mem_cons.2 (Or.inl rfl)) (by injection he with he; rw [hd, he])
    · rfl
theorem fill_eval : ∀ (l : List Oper) (i j : Nat) (o : Oper) (d : Tmp) (L : Nat → Bool) (vals : Nat → Value) (a : Act), apartB l = true → l[j]? = some o → o.dst = some d → L (i + j) = true → d < a.tmps.size →
    (fill l i L vals a).eval (.tmp d) = vals (i + j)
  | [], _, _, _, _, _, _, _, _, h, _, _, _ => by cases h
  | o' :: r, i, 0, o, d, L, vals, a, ha, h, hd, hL, hs => by
    cases h
    obtain ⟨h1, -⟩ := apart_head ha
    rw [Nat.add_zero] at hL ⊢
    unfold fill
    rw [hL, if_pos rfl, fill_eval_other r (i + 1) L vals _ d fun o'' ho he => (h1 o'' ho).elim (fun h => by rw [hd] at h; cases h) (fun h => h (by rw [hd, he]))]
    rw [hd]
    simp [Act.eval, Act.put, hs]
  | o' :: r, i, j + 1, o, d, L, vals, a, ha, h, hd, hL, hs => by
    obtain ⟨-, h2⟩ := apart_head ha
    unfold fill
    rw [show i + (j + 1) = i + 1 + j from by omega] at hL ⊢
    refine fill_eval r (i + 1) j o d L vals _ h2 h hd hL ?_
    split
    · rw [put_size]; exact hs
    · exact hs
/-- operation o waits for operation k, whose result lies in slot d -/
def depB (l : List Oper) (o : Oper) (k : Nat) (d : Tmp) : Bool := (o.after.any fun e => e.on == k && Region.binds .any e) && ((l[k]?).bind (·.dst) == some d)
/-- what is owed for one operation -/
def StepOk (P : Program) (l : List Oper) (keep : List Tmp) (a0 : Act) (T : Nat → Value → World → Prop) (S : World → Prop) (Q : Exit → Act → World → Prop) (i : Nat) (o : Oper) : Prop :=
  ∀ (a : Act) (w : World), S w → (∀ t, t ∈ keep → a.eval (.tmp t) = a0.eval (.tmp t)) → (∀ k d, depB l o k d = true → T k (a.eval (.tmp d)) w) →
    if Region.wanted o (yielded l.toArray a.tmps) then o.wp P a w (fun a' w' => ∃ v, a' = a.put o.dst v ∧ T i v w' ∧ Below w.heap.size w w' ∧ S w') Q else T i undef w
def StepsOk (P : Program) (l : List Oper) (keep : List Tmp) (a0 : Act) (T : Nat → Value → World → Prop) (S : World → Prop) (Q : Exit → Act → World → Prop) : Nat → List Oper → Prop
  | _, [] => True
  | i, o :: r => StepOk P l keep a0 T S Q i o ∧ StepsOk P l keep a0 T S Q (i + 1) r
theorem StepsOk.at {P : Program} {l : List Oper} {keep : List Tmp} {a0 : Act} {T : Nat → Value → World → Prop} {S : World → Prop} {Q : Exit → Act → World → Prop} :
    ∀ {r : List Oper} {i : Nat}, StepsOk P l keep a0 T S Q i r → ∀ {j : Nat} {o : Oper}, r[j]? = some o → StepOk P l keep a0 T S Q (i + j) o
  | [], _, _, _, _, h => by cases h
  | o :: r, i, h, 0, o', h' => by cases h'; exact h.1
  | o :: r, i, h, j + 1, o', h' => by rw [show i + (j + 1) = i + 1 + j from by omega]; exact h.2.at h'
theorem wpAny_inv {P : Program} {md : Region.Mode} {ops : Array Oper} {Q : Exit → Act → World → Prop} (I : Array Bool → Act → World → Prop)
    (hstep : ∀ listed a w i o, ops[i]? = some o → i ∈ Region.ready md ops listed → I listed a w → wpOp P ops Q i (I (listed.setIfInBounds i true)) a w)
    (hdone : ∀ listed a w, Region.ready md ops listed = [] → I listed a w → Q .normal a w) :
    ∀ (fuel : Nat) (listed : Array Bool) (a : Act) (w : World), (listed.toList.filter fun b => !b).length ≤ fuel → listed.size = ops.size → I listed a w → wpAny P md ops Q fuel listed a w
  | 0, listed, a, w, hf, hs, hI => by
    have hr : Region.ready md ops listed = [] := by
      rw [List.eq_nil_iff_forall_not_mem]
      intro j hj
      obtain ⟨h1, o, ho, -⟩ := mem_ready.1 hj
      have hj' : j < listed.size := by rw [hs]; exact (Array.getElem?_eq_some_iff.1 ho).1
      have hm : false ∈ listed.toList.filter fun b => !b := by
        rw [List.mem_filter]
        refine ⟨?_, rfl⟩
        rw [Array.getD_eq_getD_getElem?, Array.getElem?_eq_getElem hj'] at h1
        have h1 : listed[j] = false := h1
        rw [← h1]; simp
      have := List.length_pos_of_mem hm
      omega
    exact ⟨hr, hdone _ _ _ hr hI⟩
  | fuel + 1, listed, a, w, hf, hs, hI => by
    refine ⟨fun hr => hdone _ _ _ hr hI, fun i hi => ?_⟩
    obtain ⟨h1, o, ho, -⟩ := mem_ready.1 hi
    have hj' : i < listed.size := by rw [hs]; exact (Array.getElem?_eq_some_iff.1 ho).1
    refine wpOp_mono (fun a' w' h => ?_) (hstep listed a w i o ho hi hI)
    refine wpAny_inv I hstep hdone fuel _ a' w' ?_ (by simpa using hs) h
    rw [Array.getD_eq_getD_getElem?, Array.getElem?_eq_getElem hj'] at h1
    have h1 : listed[i] = false := h1
    rw [Array.toList_setIfInBounds]
    have key : ∀ (l : List Bool) (i : Nat), l[i]? = some false → ((l.set i true).filter fun b => !b).length + 1 = (l.filter fun b => !b).length := by
      intro l
      induction l with
      | nil => intro i h; cases h
      | cons b l ih =>
        intro i h
        cases i with
        | zero => cases h; simp
        | succ i => have := ih i h; cases b <;> simp at this ⊢ <;> omega
    have := key listed.toList i (by rw [Array.getElem?_toList, Array.getElem?_eq_getElem hj', h1])
    omega
/-- every edge leads back -/
def backB : List Oper → Nat → Bool
  | [], _ => true
  | o :: r, i => (o.after.all fun e => decide (e.on < i)) && backB r (i + 1)
theorem backB_at : ∀ {l : List Oper} {i : Nat}, backB l i = true → ∀ {j : Nat} {o : Oper}, l[j]? = some o → ∀ e, e ∈ o.after → e.on < i + j
  | [], _, _, _, _, h => by cases h
  | o :: r, i, h, 0, o', h' => by
    cases h'
    unfold backB at h
    rw [Bool.and_eq_true] at h
    intro e he
    have := Array.all_eq_true'.1 h.1 e he
    simpa using this
  | o :: r, i, h, j + 1, o', h' => by
    unfold backB at h
    rw [Bool.and_eq_true] at h
    intro e he
    have := backB_at h.2 h' e he
    omega
theorem all_listed {l : List Oper} {listed : Array Bool} (hb : backB l 0 = true) (hr : Region.ready .any l.toArray listed = []) (hs : listed.size = l.length) : ∀ k, k < l.length → listed.getD k false = true := by
  intro k
  induction k using Nat.strongRecOn with
  | _ k ih =>
    intro hk
    cases hl : listed.getD k false with
    | true => rfl
    | false =>
      exfalso
      have hm : k ∈ Region.ready .any l.toArray listed := by
        refine mem_ready.2 ⟨?_, l[k], by simp [hk], fun e he _ => ?_⟩
        · rw [Array.getD_eq_getD_getElem?, Array.getElem?_eq_getElem (by omega)] at hl ⊢; exact hl
        · have := backB_at hb (List.getElem?_eq_getElem hk) e he
          exact ih e.on (by omega) (by omega)
      rw [hr] at hm; cases hm
/-- THE LAW. -/
theorem wp_region_inv {P : Program} {id : Nat} {l : List Oper} {a0 : Act} {w0 : World} {Q : Exit → Act → World → Prop} (hm : P.follows .mixedOrders = true) (keep : List Tmp) (T : Nat → Value → World → Prop) (S : World → Prop)
    (hap : apartB l = true) (hkeep : (keep.all fun t => l.all fun o => o.dst != some t) = true) (hsz : (l.all fun o => match o.dst with | some d => decide (d < a0.tmps.size) | none => true) = true)
    (hback : backB l 0 = true)
    (hmono : ∀ k v w w', Below w.heap.size w w' → T k v w → T k v w') (hS : S w0.drew)
    (hsteps : StepsOk P l keep a0 T S Q 0 l)
    (hdone : ∀ (vals : Nat → Value) (w : World), (∀ k, k < l.length → T k (vals k) w) → S w → Q .normal (fill l 0 (fun _ => true) vals a0) w) :
    (Code.region id l.toArray true).wp P Q a0 w0 := by
  refine wp_region_any hm ?_
  refine wpAny_inv (fun listed a w => listed.size = l.length ∧ ∃ vals : Nat → Value, a = fill l 0 (fun k => listed.getD k false) vals a0 ∧ (∀ k, listed.getD k false = true → T k (vals k) w) ∧ S w) ?_ ?_ _ _ _ _ ?_ (by simp) ?_
  · rintro listed a w i o ho hi ⟨hls, vals, rfl, hT, hSw⟩
    obtain ⟨h1, o', ho', hdeps⟩ := mem_ready.1 hi
    rw [ho] at ho'; cases ho'
    have ho2 : l[i]? = some o := by simpa using ho
    have hil : i < l.length := (List.getElem?_eq_some_iff.1 ho2).1
    have h1' : listed.getD i false = false := by
      rw [Array.getD_eq_getD_getElem?, Array.getElem?_eq_getElem (by omega)] at h1 ⊢; exact h1
    have hst := hsteps.at ho2 (fill l 0 (fun k => listed.getD k false) vals a0) w hSw
      (fun t ht => fill_eval_other l 0 _ vals a0 t fun o'' ho'' he => by
        have := List.all_eq_true.1 (List.all_eq_true.1 hkeep t ht) o'' ho''
        rw [he] at this; simp at this)
      (fun k d hd => by
        unfold depB at hd
        rw [Bool.and_eq_true] at hd
        obtain ⟨e, he, hek⟩ := Array.any_eq_true'.1 hd.1
        rw [Bool.and_eq_true, beq_iff_eq] at hek
        have hlk := hdeps e he hek.2
        rw [hek.1] at hlk
        have hd2 : (l[k]?).bind (·.dst) = some d := by simpa using hd.2
        obtain ⟨ok, hok, hdk⟩ := Option.bind_eq_some_iff.1 hd2
        have hds : d < a0.tmps.size := by
          have := List.all_eq_true.1 hsz ok (List.mem_of_getElem? hok)
          rw [hdk] at this; simpa using this
        rw [fill_eval l 0 k ok d _ vals a0 hap hok hdk (by rw [Nat.zero_add]; exact hlk) hds, Nat.zero_add]
        exact hT k hlk)
    rw [Nat.zero_add] at hst
    have next : ∀ (v : Value) (w' : World), T i v w' → Below w.heap.size w w' → S w' → (listed.setIfInBounds i true).size = l.length ∧ ∃ vals' : Nat → Value, (fill l 0 (fun k => listed.getD k false) vals a0).put o.dst v = fill l 0 (fun k => (listed.setIfInBounds i true).getD k false) vals' a0 ∧ (∀ k, (listed.setIfInBounds i true).getD k false = true → T k (vals' k) w') ∧ S w' := by
      intro v w' hTv hb hS'
      refine ⟨by simpa using hls, fun k => if k = 0 + i then v else vals k, ?_, ?_, hS'⟩
      · rw [fill_set l 0 i o _ vals a0 v hap ho2 (by rw [Nat.zero_add]; exact h1')]
        refine fill_congr _ _ _ _ _ _ _ fun k _ => ⟨?_, rfl⟩
        by_cases hk : k = i
        · subst hk
          rw [if_pos (by omega), Array.getD_eq_getD_getElem?, Array.getElem?_setIfInBounds_self_of_lt (by omega)]; rfl
        · rw [if_neg (by omega), getD_set_ne false (by omega)]
      · intro k hk
        by_cases hki : k = i
        · subst hki; simp only [Nat.zero_add, if_true]; exact hTv
        · simp only [Nat.zero_add, hki, if_false]
          rw [getD_set_ne false (by omega)] at hk
          exact hmono k _ w w' hb (hT k hk)
    unfold wpOp
    simp only [ho]
    split
    · rename_i hw
      rw [if_pos hw] at hst
      refine .inl (Oper.wp_mono ?_ hst)
      rintro a' w' ⟨v, rfl, hTv, hb, hS'⟩
      exact next v w' hTv hb hS'
    · rename_i hw
      rw [if_neg hw] at hst
      exact next undef w hst (Below.refl _ _) hSw
  · rintro listed a w hr ⟨hls, vals, rfl, hT, hSw⟩
    have hall := all_listed hback hr hls
    have e : fill l 0 (fun k => listed.getD k false) vals a0 = fill l 0 (fun _ => true) vals a0 := by
      have go : ∀ (r : List Oper) (i : Nat) (a : Act), i + r.length = l.length → fill r i (fun k => listed.getD k false) vals a = fill r i (fun _ => true) vals a := by
        intro r
        induction r with
        | nil => intro i a _; rfl
        | cons o r ih =>
          intro i a h
          simp only [List.length_cons] at h
          have hi := hall i (by omega)
          unfold fill
          simp only [hi]
          exact ih (i + 1) _ (by omega)
      exact go l 0 a0 (by omega)
    rw [e]
    exact hdone vals w (fun k hk => hT k (hall k hk)) hSw
  · simp [List.filter_eq_self.2]
  · refine ⟨by simp, fun _ => undef, ?_, fun k hk => ?_, hS⟩
    · have go : ∀ (r : List Oper) (i : Nat) (a : Act), fill r i (fun k => (Array.replicate l.toArray.size false).getD k false) (fun _ => undef) a = a := by
        intro r
        induction r with
        | nil => intro i a; rfl
        | cons o r ih =>
          intro i a
          unfold fill
          have hf : (Array.replicate l.toArray.size false).getD i false = false := by
            rw [Array.getD_eq_getD_getElem?, Array.getElem?_replicate]; split <;> rfl
          simp only [hf, Bool.false_eq_true, if_false]
          exact ih (i + 1) a
      exact (go l 0 a0).symm
    · have hf : (Array.replicate l.toArray.size false).getD k false = false := by
        rw [Array.getD_eq_getD_getElem?, Array.getElem?_replicate]; split <;> rfl
      rw [hf] at hk; cases hk
/- how single operations pay what is owed -/
theorem wanted_of {l : List Oper} {o : Oper} {a : Act} {j : Nat} {b : Bool} {d : Tmp} (hg : o.guard = some (j, b)) (hd : (l[j]?).bind (·.dst) = some d) (hv : a.eval (.tmp d) = .bool b) : Region.wanted o (yielded l.toArray a.tmps) = true := by
  have hget : a.tmps[d]? = some (.bool b) := by
    simp only [Act.eval, Array.getD_eq_getD_getElem?] at hv
    cases h : a.tmps[d]? with
    | none => rw [h] at hv; cases hv
    | some x => rw [h] at hv; exact congrArg some hv
  have hy : yielded l.toArray a.tmps j = some b := by
    unfold yielded
    rw [List.getElem?_toArray, hd]
    simp only [Option.bind_some, hget]
  unfold Region.wanted
  rw [hg]
  simp [hy]
theorem pay_plain {P : Program} {l : List Oper} {o : Oper} {a : Act} {w : World} {R : Act → World → Prop} {Q : Exit → Act → World → Prop} {X : Prop} (hg : o.guard = none) (h : o.wp P a w R Q) :
    if Region.wanted o (yielded l.toArray a.tmps) = true then o.wp P a w R Q else X := by
  rw [if_pos (by simp [Region.wanted, hg])]; exact h
theorem pay_guard {P : Program} {l : List Oper} {o : Oper} {a : Act} {w : World} {R : Act → World → Prop} {Q : Exit → Act → World → Prop} {X : Prop} {j : Nat} {b : Bool} {d : Tmp} (hg : o.guard = some (j, b)) (hd : (l[j]?).bind (·.dst) = some d) (hv : a.eval (.tmp d) = .bool b) (h : o.wp P a w R Q) :
    if Region.wanted o (yielded l.toArray a.tmps) = true then o.wp P a w R Q else X := by
  rw [if_pos (wanted_of hg hd hv)]; exact h
theorem step_value {P : Program} {o : Oper} {a : Act} {w : World} {T : Nat → Value → World → Prop} {i : Nat} {S : World → Prop} {Q : Exit → Act → World → Prop} (v : Value) (hv : (execOp a.eval o).run P w = .ok (.value v) w) (hT : T i v w) (hS : S w) :
    o.wp P a w (fun a' w' => ∃ v, a' = a.put o.dst v ∧ T i v w' ∧ Below w.heap.size w w' ∧ S w') Q := by
  unfold Oper.wp
  rw [hv]
  exact ⟨v, rfl, hT, Below.refl _ _, hS⟩
theorem step_call {P : Program} {o : Oper} {a : Act} {w : World} {T : Nat → Value → World → Prop} {i : Nat} {S : World → Prop} {Q : Exit → Act → World → Prop} (f : FuncId) (args : Array Value) (hv : (execOp a.eval o).run P w = .ok (.enter f args) w)
    (hc : Calls P f args w fun e w' => ∃ v, e = .returned v ∧ T i v w' ∧ Below w.heap.size w w' ∧ S w') :
    o.wp P a w (fun a' w' => ∃ v, a' = a.put o.dst v ∧ T i v w' ∧ Below w.heap.size w w' ∧ S w') Q := by
  unfold Oper.wp
  rw [hv]
  refine Calls.mono hc ?_
  rintro e w' ⟨v, rfl, h1, h2, h3⟩
  exact ⟨v, rfl, h1, h2, h3⟩
end Go.Proofs.Ytklimoepkifnhaa
