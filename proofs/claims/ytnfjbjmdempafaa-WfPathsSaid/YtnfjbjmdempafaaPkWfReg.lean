/- A law for a drawn region that assigns at its end a variable that it reads; the table of WfPaths's region. Written by wip/gen/wfreg.py. -/
import Derived.Test.YtnfjbjmdempafaaPkA
namespace Go.Proofs.Ytnfjbjmdempafaa
section
open Go.RowKit
theorem fill_eval_un : ∀ (l : List Oper) (i : Nat) (L : Nat → Bool) (vals : Nat → Value) (a : Act) (t : Tmp), (∀ j o, l[j]? = some o → o.dst = some t → L (i + j) = false) → (fill l i L vals a).eval (.tmp t) = a.eval (.tmp t)
  | [], _, _, _, _, _, _ => rfl
  | o :: r, i, L, vals, a, t, h => by
    unfold fill
    rw [fill_eval_un r (i + 1) L vals _ t fun j o' h1 h2 => by rw [show i + 1 + j = i + (j + 1) from by omega]; exact h (j + 1) o' (by simpa using h1) h2]
    split
    · rename_i hL
      refine Act.eval_put fun d hd he => ?_
      have := h 0 o rfl (by injection he with he; rw [hd, he])
      rw [Nat.add_zero, hL] at this
      cases this
    · rfl
/-- t is assigned by no operation but i. -/
def onlyB (l : List Oper) (t : Tmp) (i : Nat) : Bool := (List.range l.length).all fun j => match l[j]? with
  | some o => o.dst != some t || j == i
  | none => true
theorem un_none {l : List Oper} {t : Tmp} {L : Nat → Bool} (h : (l.all fun o => o.dst != some t) = true) : ∀ j o, l[j]? = some o → o.dst = some t → L j = false := fun j o h1 h2 => by
  have := List.all_eq_true.1 h o (List.mem_of_getElem? h1)
  rw [h2] at this
  simp at this
theorem un_last {l : List Oper} {t : Tmp} {i : Nat} {L : Nat → Bool} (h : onlyB l t i = true) (hL : L i = false) : ∀ j o, l[j]? = some o → o.dst = some t → L j = false := fun j o h1 h2 => by
  have hj := (List.getElem?_eq_some_iff.1 h1).1
  have := List.all_eq_true.1 h j (List.mem_range.2 hj)
  rw [h1] at this
  dsimp only at this
  rw [h2] at this
  simp at this
  rw [this]; exact hL
/-- what is owed for one operation -/
def StepUn (P : Program) (l : List Oper) (a0 : Act) (T : Nat → Value → World → Prop) (R : World → World → Prop) (S : (Nat → Bool) → World → Prop) (Q : Exit → Act → World → Prop) (i : Nat) (o : Oper) : Prop :=
  ∀ (L : Nat → Bool) (a : Act) (w : World), L i = false → (∀ j, waitsB l j i = true → L j = false) → S L w → (∀ t, (∀ j o, l[j]? = some o → o.dst = some t → L j = false) → a.eval (.tmp t) = a0.eval (.tmp t)) → (∀ k d, depB l o k d = true → T k (a.eval (.tmp d)) w) →
    if Region.wanted o (yielded l.toArray a.tmps) then o.wp P a w (fun a' w' => ∃ v, a' = a.put o.dst v ∧ T i v w' ∧ R w w' ∧ S (fun k => if k = i then true else L k) w') Q else T i undef w ∧ R w w ∧ S (fun k => if k = i then true else L k) w
def StepsUn (P : Program) (l : List Oper) (a0 : Act) (T : Nat → Value → World → Prop) (R : World → World → Prop) (S : (Nat → Bool) → World → Prop) (Q : Exit → Act → World → Prop) : Nat → List Oper → Prop
  | _, [] => True
  | i, o :: r => StepUn P l a0 T R S Q i o ∧ StepsUn P l a0 T R S Q (i + 1) r
theorem StepsUn.at {P : Program} {l : List Oper} {a0 : Act} {T : Nat → Value → World → Prop} {R : World → World → Prop} {S : (Nat → Bool) → World → Prop} {Q : Exit → Act → World → Prop} :
    ∀ {r : List Oper} {i : Nat}, StepsUn P l a0 T R S Q i r → ∀ {j : Nat} {o : Oper}, r[j]? = some o → StepUn P l a0 T R S Q (i + j) o
  | [], _, _, _, _, h => by cases h
  | o :: r, i, h, 0, o', h' => by cases h'; exact h.1
  | o :: r, i, h, j + 1, o', h' => by rw [show i + (j + 1) = i + 1 + j from by omega]; exact h.2.at h'
/-- THE LAW. -/
theorem wp_region_un {P : Program} {id : Nat} {l : List Oper} {a0 : Act} {w0 : World} {Q : Exit → Act → World → Prop} (hm : P.follows .mixedOrders = true) (T : Nat → Value → World → Prop) (R : World → World → Prop) (S : (Nat → Bool) → World → Prop)
    (hap : apartB l = true) (hsz : (l.all fun o => match o.dst with | some d => decide (d < a0.tmps.size) | none => true) = true)
    (hback : backB l 0 = true)
    (hmono : ∀ k v w w', R w w' → T k v w → T k v w') (hS : S (fun _ => false) w0.drew)
    (hsteps : StepsUn P l a0 T R S Q 0 l)
    (hdone : ∀ (vals : Nat → Value) (w : World), (∀ k, k < l.length → T k (vals k) w) → (∃ L : Nat → Bool, (∀ k, k < l.length → L k = true) ∧ S L w) → Q .normal (fill l 0 (fun _ => true) vals a0) w) :
    (Code.region id l.toArray true).wp P Q a0 w0 := by
  refine wp_region_any hm ?_
  refine wpAny_inv (fun listed a w => listed.size = l.length ∧ ∃ vals : Nat → Value, a = fill l 0 (fun k => listed.getD k false) vals a0 ∧ (∀ k, listed.getD k false = true → T k (vals k) w) ∧ S (fun k => listed.getD k false) w ∧ ∀ j i, waitsB l j i = true → listed.getD j false = true → listed.getD i false = true) ?_ ?_ _ _ _ _ ?_ (by simp) ?_
  · rintro listed a w i o ho hi ⟨hls, vals, rfl, hT, hSw, hcl⟩
    obtain ⟨h1, o', ho', hdeps⟩ := mem_ready.1 hi
    rw [ho] at ho'; cases ho'
    have ho2 : l[i]? = some o := by simpa using ho
    have hil : i < l.length := (List.getElem?_eq_some_iff.1 ho2).1
    have h1' : listed.getD i false = false := by
      rw [Array.getD_eq_getD_getElem?, Array.getElem?_eq_getElem (by omega)] at h1 ⊢; exact h1
    have hst := hsteps.at ho2 (fun k => listed.getD k false) (fill l 0 (fun k => listed.getD k false) vals a0) w (by rw [Nat.zero_add]; exact h1')
      (fun j hj => by
        rw [Nat.zero_add] at hj
        cases hlj : listed.getD j false with
        | false => rfl
        | true => rw [hcl j i hj hlj] at h1'; cases h1')
      hSw
      (fun t ht => fill_eval_un l 0 _ vals a0 t fun j o h1 h2 => by rw [Nat.zero_add]; exact ht j o h1 h2)
      (fun k d hd => by
        unfold depB at hd
        rw [Bool.and_eq_true] at hd
        obtain ⟨e, he, hek⟩ := Array.any_eq_true'.1 hd.1
        rw [Bool.and_eq_true, beq_iff_eq] at hek
        have hlk := hdeps e he hek.2
        rw [hek.1] at hlk
        have hd2 : (l[k]?).bind (·.dst) = some d := by simpa using hd.2
        obtain ⟨ok, hok, hdk⟩ := Option.bind_eq_some_iff.1 hd2
        have hds : d < a0.tmps.size := by
          have := List.all_eq_true.1 hsz ok (List.mem_of_getElem? hok)
          rw [hdk] at this; simpa using this
        rw [fill_eval l 0 k ok d _ vals a0 hap hok hdk (by rw [Nat.zero_add]; exact hlk) hds, Nat.zero_add]
        exact hT k hlk)
    rw [Nat.zero_add] at hst
    have hL : (fun k => if k = i then true else listed.getD k false) = fun k => (listed.setIfInBounds i true).getD k false := by
      funext k
      by_cases hk : k = i
      · subst hk
        rw [if_pos rfl, Array.getD_eq_getD_getElem?, Array.getElem?_setIfInBounds_self_of_lt (by omega)]; rfl
      · rw [if_neg hk, getD_set_ne false (by omega)]
    have hcl' : ∀ j k, waitsB l j k = true → (listed.setIfInBounds i true).getD j false = true → (listed.setIfInBounds i true).getD k false = true := by
      intro j k hjk hj
      by_cases hji : j = i
      · subst hji
        unfold waitsB at hjk
        rw [ho2] at hjk
        obtain ⟨e, he, hek⟩ := Array.any_eq_true'.1 hjk
        rw [Bool.and_eq_true, beq_iff_eq] at hek
        have := hdeps e he hek.2
        rw [hek.1] at this
        exact getD_set_true this
      · rw [getD_set_ne false (by omega)] at hj
        exact getD_set_true (hcl j k hjk hj)
    have next : ∀ (v : Value) (w' : World), T i v w' → R w w' → S (fun k => if k = i then true else listed.getD k false) w' → (listed.setIfInBounds i true).size = l.length ∧ ∃ vals' : Nat → Value, (fill l 0 (fun k => listed.getD k false) vals a0).put o.dst v = fill l 0 (fun k => (listed.setIfInBounds i true).getD k false) vals' a0 ∧ (∀ k, (listed.setIfInBounds i true).getD k false = true → T k (vals' k) w') ∧ S (fun k => (listed.setIfInBounds i true).getD k false) w' ∧ ∀ j k, waitsB l j k = true → (listed.setIfInBounds i true).getD j false = true → (listed.setIfInBounds i true).getD k false = true := by
      intro v w' hTv hb hS'
      rw [hL] at hS'
      refine ⟨by simpa using hls, fun k => if k = 0 + i then v else vals k, ?_, ?_, hS', hcl'⟩
      · rw [fill_set l 0 i o _ vals a0 v hap ho2 (by rw [Nat.zero_add]; exact h1')]
        refine fill_congr _ _ _ _ _ _ _ fun k _ => ⟨?_, rfl⟩
        by_cases hk : k = i
        · subst hk
          rw [if_pos (by omega), Array.getD_eq_getD_getElem?, Array.getElem?_setIfInBounds_self_of_lt (by omega)]; rfl
        · rw [if_neg (by omega), getD_set_ne false (by omega)]
      · intro k hk
        by_cases hki : k = i
        · subst hki; simp only [Nat.zero_add, if_true]; exact hTv
        · simp only [Nat.zero_add, hki, if_false]
          rw [getD_set_ne false (by omega)] at hk
          exact hmono k _ w w' hb (hT k hk)
    unfold wpOp
    simp only [ho]
    split
    · rename_i hw
      rw [if_pos hw] at hst
      refine .inl (Oper.wp_mono ?_ hst)
      rintro a' w' ⟨v, rfl, hTv, hb, hS'⟩
      exact next v w' hTv hb hS'
    · rename_i hw
      rw [if_neg hw] at hst
      exact next undef w hst.1 hst.2.1 hst.2.2
  · rintro listed a w hr ⟨hls, vals, rfl, hT, hSw, hcl⟩
    have hall := all_listed hback hr hls
    have e : fill l 0 (fun k => listed.getD k false) vals a0 = fill l 0 (fun _ => true) vals a0 := by
      have go : ∀ (r : List Oper) (i : Nat) (a : Act), i + r.length = l.length → fill r i (fun k => listed.getD k false) vals a = fill r i (fun _ => true) vals a := by
        intro r
        induction r with
        | nil => intro i a _; rfl
        | cons o r ih =>
          intro i a h
          simp only [List.length_cons] at h
          have hi := hall i (by omega)
          unfold fill
          simp only [hi]
          exact ih (i + 1) _ (by omega)
      exact go l 0 a0 (by omega)
    rw [e]
    exact hdone vals w (fun k hk => hT k (hall k hk)) ⟨_, hall, hSw⟩
  · simp [List.filter_eq_self.2]
  · have hfalse : (fun k => (Array.replicate l.toArray.size false).getD k false) = fun _ => false := by
      funext k; rw [Array.getD_eq_getD_getElem?, Array.getElem?_replicate]; split <;> rfl
    refine ⟨by simp, fun _ => undef, ?_, fun k hk => ?_, by rw [hfalse]; exact hS, fun j i _ hj => ?_⟩
    · have go : ∀ (r : List Oper) (i : Nat) (a : Act), fill r i (fun k => (Array.replicate l.toArray.size false).getD k false) (fun _ => undef) a = a := by
        intro r
        induction r with
        | nil => intro i a; rfl
        | cons o r ih =>
          intro i a
          unfold fill
          have hf : (Array.replicate l.toArray.size false).getD i false = false := by
            rw [Array.getD_eq_getD_getElem?, Array.getElem?_replicate]; split <;> rfl
          simp only [hf, Bool.false_eq_true, if_false]
          exact ih (i + 1) a
      exact (go l 0 a0).symm
    · have hf : (Array.replicate l.toArray.size false).getD k false = false := by
        rw [Array.getD_eq_getD_getElem?, Array.getElem?_replicate]; split <;> rfl
      rw [hf] at hk; cases hk
    · have hf : (Array.replicate l.toArray.size false).getD j false = false := by
        rw [Array.getD_eq_getD_getElem?, Array.getElem?_replicate]; split <;> rfl
      rw [hf] at hj; cases hj

end
/-- What each operation gives. -/
def WpT (la : Option Addr) (n lc sb m sc k x : Nat) (u1 u2 : Value) (bd b1 b2 : Bool) : Nat → Value → World → Prop
  | 0, v, _ => v = .bool bd
  | 1, v, _ => v = .bool bd
  | 2, v, _ => bd = false → v = .slice la n lc
  | 3, v, _ => bd = false → v = .slice (some ⟨sb, 0, none⟩) m sc
  | 4, v, _ => bd = false → v = .int .i64 (k : Int)
  | 5, v, _ => bd = false → v = .pointer (some ⟨sb, k, none⟩)
  | 6, v, _ => bd = false → v = .int .i64 (x : Int)
  | 7, v, _ => bd = false → v = .bool b1
  | 8, v, _ => v = .bool (bd || b1)
  | 9, v, _ => v = .bool (bd || b1)
  | 10, v, _ => (bd || b1) = false → v = .agg #[u1, u2]
  | 11, v, _ => (bd || b1) = false → v = .slice (some ⟨sb, 0, none⟩) m sc
  | 12, v, _ => (bd || b1) = false → v = .int .i64 (k : Int)
  | 13, v, _ => (bd || b1) = false → v = .pointer (some ⟨sb, k, none⟩)
  | 14, v, _ => (bd || b1) = false → v = .int .i64 (x : Int)
  | 15, v, _ => (bd || b1) = false → v = .bool b2
  | 16, v, _ => v = .bool (bd || (b1 || b2))
  | 17, v, _ => v = .bool (bd || (b1 || b2))
  | _, _, _ => True
def AnyW (_ _ : World) : Prop := True
theorem anyW (a b : World) : AnyW a b := trivial
theorem WpT_mono (la : Option Addr) (n lc sb m sc k x : Nat) (u1 u2 : Value) (bd b1 b2 : Bool) (i : Nat) (v : Value) (w w' : World) (_h : AnyW w w') (h : WpT la n lc sb m sc k x u1 u2 bd b1 b2 i v w) : WpT la n lc sb m sc k x u1 u2 bd b1 b2 i v w' := by
  unfold WpT at h ⊢
  split at h <;> exact h
end Go.Proofs.Ytnfjbjmdempafaa
