/- A law for a drawn region whose relation between worlds knows which operation ran; the table of WfExtends's region. Written by wip/gen/wfreg2.py. -/
import Derived.Maps.AppendAt
import Derived.Test.YtnfjbjmdempafaaPxH
import Derived.Test.YtnfjbjmdempafaaPxWD
import Derived.Test.YtnfjbjmdempafaaPxWfReg
namespace Go.Proofs.Ytnfjbjmdempafaa
section
open Go.RowKit
/-- what is owed for one operation -/
def StepIx (P : Program) (l : List Oper) (a0 : Act) (T : Nat → Value → World → Prop) (R : Nat → World → World → Prop) (S : (Nat → Bool) → World → Prop) (Q : Exit → Act → World → Prop) (i : Nat) (o : Oper) : Prop :=
  ∀ (L : Nat → Bool) (a : Act) (w : World), L i = false → (∀ j, waitsB l j i = true → L j = false) → S L w → (∀ t, (∀ j o, l[j]? = some o → o.dst = some t → L j = false) → a.eval (.tmp t) = a0.eval (.tmp t)) → (∀ k d, depB l o k d = true → T k (a.eval (.tmp d)) w) →
    if Region.wanted o (yielded l.toArray a.tmps) then o.wp P a w (fun a' w' => ∃ v, a' = a.put o.dst v ∧ T i v w' ∧ R i w w' ∧ S (fun k => if k = i then true else L k) w') Q else T i undef w ∧ R i w w ∧ S (fun k => if k = i then true else L k) w
def StepsIx (P : Program) (l : List Oper) (a0 : Act) (T : Nat → Value → World → Prop) (R : Nat → World → World → Prop) (S : (Nat → Bool) → World → Prop) (Q : Exit → Act → World → Prop) : Nat → List Oper → Prop
  | _, [] => True
  | i, o :: r => StepIx P l a0 T R S Q i o ∧ StepsIx P l a0 T R S Q (i + 1) r
theorem StepsIx.at {P : Program} {l : List Oper} {a0 : Act} {T : Nat → Value → World → Prop} {R : Nat → World → World → Prop} {S : (Nat → Bool) → World → Prop} {Q : Exit → Act → World → Prop} :
    ∀ {r : List Oper} {i : Nat}, StepsIx P l a0 T R S Q i r → ∀ {j : Nat} {o : Oper}, r[j]? = some o → StepIx P l a0 T R S Q (i + j) o
  | [], _, _, _, _, h => by cases h
  | o :: r, i, h, 0, o', h' => by cases h'; exact h.1
  | o :: r, i, h, j + 1, o', h' => by rw [show i + (j + 1) = i + 1 + j from by omega]; exact h.2.at h'
/-- THE LAW. -/
theorem wp_region_ix {P : Program} {id : Nat} {l : List Oper} {a0 : Act} {w0 : World} {Q : Exit → Act → World → Prop} (hm : P.follows .mixedOrders = true) (T : Nat → Value → World → Prop) (R : Nat → World → World → Prop) (S : (Nat → Bool) → World → Prop)
    (hap : apartB l = true) (hsz : (l.all fun o => match o.dst with | some d => decide (d < a0.tmps.size) | none => true) = true)
    (hback : backB l 0 = true)
    (hmono : ∀ k i v w w', k ≠ i → R i w w' → T k v w → T k v w') (hS : S (fun _ => false) w0.drew)
    (hsteps : StepsIx P l a0 T R S Q 0 l)
    (hdone : ∀ (vals : Nat → Value) (w : World), (∀ k, k < l.length → T k (vals k) w) → (∃ L : Nat → Bool, (∀ k, k < l.length → L k = true) ∧ S L w) → Q .normal (fill l 0 (fun _ => true) vals a0) w) :
    (Code.region id l.toArray true).wp P Q a0 w0 := by
  refine wp_region_any hm ?_
  refine wpAny_inv (fun listed a w => listed.size = l.length ∧ ∃ vals : Nat → Value, a = fill l 0 (fun k => listed.getD k false) vals a0 ∧ (∀ k, listed.getD k false = true → T k (vals k) w) ∧ S (fun k => listed.getD k false) w ∧ ∀ j i, waitsB l j i = true → listed.getD j false = true → listed.getD i false = true) ?_ ?_ _ _ _ _ ?_ (by simp) ?_
  · rintro listed a w i o ho hi ⟨hls, vals, rfl, hT, hSw, hcl⟩
    obtain ⟨h1, o', ho', hdeps⟩ := mem_ready.1 hi
    rw [ho] at ho'; cases ho'
    have ho2 : l[i]? = some o := by simpa using ho
    have hil : i < l.length := (List.getElem?_eq_some_iff.1 ho2).1
    have h1' : listed.getD i false = false := by
      rw [Array.getD_eq_getD_getElem?, Array.getElem?_eq_getElem (by omega)] at h1 ⊢; exact h1
    have hst := hsteps.at ho2 (fun k => listed.getD k false) (fill l 0 (fun k => listed.getD k false) vals a0) w (by rw [Nat.zero_add]; exact h1')
      (fun j hj => by
        rw [Nat.zero_add] at hj
        cases hlj : listed.getD j false with
        | false => rfl
        | true => rw [hcl j i hj hlj] at h1'; cases h1')
      hSw
      (fun t ht => fill_eval_un l 0 _ vals a0 t fun j o h1 h2 => by rw [Nat.zero_add]; exact ht j o h1 h2)
      (fun k d hd => by
        unfold depB at hd
        rw [Bool.and_eq_true] at hd
        obtain ⟨e, he, hek⟩ := Array.any_eq_true'.1 hd.1
        rw [Bool.and_eq_true, beq_iff_eq] at hek
        have hlk := hdeps e he hek.2
        rw [hek.1] at hlk
        have hd2 : (l[k]?).bind (·.dst) = some d := by simpa using hd.2
        obtain ⟨ok, hok, hdk⟩ := Option.bind_eq_some_iff.1 hd2
        have hds : d < a0.tmps.size := by
          have := List.all_eq_true.1 hsz ok (List.mem_of_getElem? hok)
          rw [hdk] at this; simpa using this
        rw [fill_eval l 0 k ok d _ vals a0 hap hok hdk (by rw [Nat.zero_add]; exact hlk) hds, Nat.zero_add]
        exact hT k hlk)
    rw [Nat.zero_add] at hst
    have hL : (fun k => if k = i then true else listed.getD k false) = fun k => (listed.setIfInBounds i true).getD k false := by
      funext k
      by_cases hk : k = i
      · subst hk
        rw [if_pos rfl, Array.getD_eq_getD_getElem?, Array.getElem?_setIfInBounds_self_of_lt (by omega)]; rfl
      · rw [if_neg hk, getD_set_ne false (by omega)]
    have hcl' : ∀ j k, waitsB l j k = true → (listed.setIfInBounds i true).getD j false = true → (listed.setIfInBounds i true).getD k false = true := by
      intro j k hjk hj
      by_cases hji : j = i
      · subst hji
        unfold waitsB at hjk
        rw [ho2] at hjk
        obtain ⟨e, he, hek⟩ := Array.any_eq_true'.1 hjk
        rw [Bool.and_eq_true, beq_iff_eq] at hek
        have := hdeps e he hek.2
        rw [hek.1] at this
        exact getD_set_true this
      · rw [getD_set_ne false (by omega)] at hj
        exact getD_set_true (hcl j k hjk hj)
    have next : ∀ (v : Value) (w' : World), T i v w' → R i w w' → S (fun k => if k = i then true else listed.getD k false) w' → (listed.setIfInBounds i true).size = l.length ∧ ∃ vals' : Nat → Value, (fill l 0 (fun k => listed.getD k false) vals a0).put o.dst v = fill l 0 (fun k => (listed.setIfInBounds i true).getD k false) vals' a0 ∧ (∀ k, (listed.setIfInBounds i true).getD k false = true → T k (vals' k) w') ∧ S (fun k => (listed.setIfInBounds i true).getD k false) w' ∧ ∀ j k, waitsB l j k = true → (listed.setIfInBounds i true).getD j false = true → (listed.setIfInBounds i true).getD k false = true := by
      intro v w' hTv hb hS'
      rw [hL] at hS'
      refine ⟨by simpa using hls, fun k => if k = 0 + i then v else vals k, ?_, ?_, hS', hcl'⟩
      · rw [fill_set l 0 i o _ vals a0 v hap ho2 (by rw [Nat.zero_add]; exact h1')]
        refine fill_congr _ _ _ _ _ _ _ fun k _ => ⟨?_, rfl⟩
        by_cases hk : k = i
        · subst hk
          rw [if_pos (by omega), Array.getD_eq_getD_getElem?, Array.getElem?_setIfInBounds_self_of_lt (by omega)]; rfl
        · rw [if_neg (by omega), getD_set_ne false (by omega)]
      · intro k hk
        by_cases hki : k = i
        · subst hki; simp only [Nat.zero_add, if_true]; exact hTv
        · simp only [Nat.zero_add, hki, if_false]
          rw [getD_set_ne false (by omega)] at hk
          exact hmono k i _ w w' hki hb (hT k hk)
    unfold wpOp
    simp only [ho]
    split
    · rename_i hw
      rw [if_pos hw] at hst
      refine .inl (Oper.wp_mono ?_ hst)
      rintro a' w' ⟨v, rfl, hTv, hb, hS'⟩
      exact next v w' hTv hb hS'
    · rename_i hw
      rw [if_neg hw] at hst
      exact next undef w hst.1 hst.2.1 hst.2.2
  · rintro listed a w hr ⟨hls, vals, rfl, hT, hSw, hcl⟩
    have hall := all_listed hback hr hls
    have e : fill l 0 (fun k => listed.getD k false) vals a0 = fill l 0 (fun _ => true) vals a0 := by
      have go : ∀ (r : List Oper) (i : Nat) (a : Act), i + r.length = l.length → fill r i (fun k => listed.getD k false) vals a = fill r i (fun _ => true) vals a := by
        intro r
        induction r with
        | nil => intro i a _; rfl
        | cons o r ih =>
          intro i a h
          simp only [List.length_cons] at h
          have hi := hall i (by omega)
          unfold fill
          simp only [hi]
          exact ih (i + 1) _ (by omega)
      exact go l 0 a0 (by omega)
    rw [e]
    exact hdone vals w (fun k hk => hT k (hall k hk)) ⟨_, hall, hSw⟩
  · simp [List.filter_eq_self.2]
  · have hfalse : (fun k => (Array.replicate l.toArray.size false).getD k false) = fun _ => false := by
      funext k; rw [Array.getD_eq_getD_getElem?, Array.getElem?_replicate]; split <;> rfl
    refine ⟨by simp, fun _ => undef, ?_, fun k hk => ?_, by rw [hfalse]; exact hS, fun j i _ hj => ?_⟩
    · have go : ∀ (r : List Oper) (i : Nat) (a : Act), fill r i (fun k => (Array.replicate l.toArray.size false).getD k false) (fun _ => undef) a = a := by
        intro r
        induction r with
        | nil => intro i a; rfl
        | cons o r ih =>
          intro i a
          unfold fill
          have hf : (Array.replicate l.toArray.size false).getD i false = false := by
            rw [Array.getD_eq_getD_getElem?, Array.getElem?_replicate]; split <;> rfl
          simp only [hf, Bool.false_eq_true, if_false]
          exact ih (i + 1) a
      exact (go l 0 a0).symm
    · have hf : (Array.replicate l.toArray.size false).getD k false = false := by
        rw [Array.getD_eq_getD_getElem?, Array.getElem?_replicate]; split <;> rfl
      rw [hf] at hk; cases hk
    · have hf : (Array.replicate l.toArray.size false).getD j false = false := by
        rw [Array.getD_eq_getD_getElem?, Array.getElem?_replicate]; split <;> rfl
      rw [hf] at hj; cases hj

end

section
open Go.RowKit
def n1L (ru : Nat) : List Value := [.int .i64 2, .slice none 0 0, .int .i64 (ru : Int), .int .u64 0, .int .u64 0, .int .u64 0, .int .u64 0]
def n2L (m b : Nat) : List Value := [.int .i64 (7 + (m : Int)), .slice (some ⟨b, 0, none⟩) 1 1, .int .i64 0, .int .u64 0, .int .u64 0, .int .u64 0, .int .u64 0]
/-- What an operation leaves of the world: the append (19) may write behind the row, the store (21) into the box. -/
def WxR (hb : Nat) (ob : Option Nat) (i : Nat) (w w' : World) : Prop := w.heap.size ≤ w'.heap.size ∧ ∀ b, b < w.heap.size → b ≠ hb → (i = 19 → some b ≠ ob) → w'.heap[b]? = w.heap[b]?
theorem WxR.same {hb : Nat} {ob : Option Nat} {i : Nat} {w : World} : WxR hb ob i w w := ⟨Nat.le_refl _, fun _ _ _ _ => rfl⟩
theorem WxR.of_below {hb : Nat} {ob : Option Nat} {i : Nat} {w w' : World} (h : Below w.heap.size w w') : WxR hb ob i w w' := ⟨h.size, fun b hl _ _ => h.block b hl⟩
theorem WxR.of_grown {hb : Nat} {ob : Option Nat} {w w' : World} (h : w.grownBy w' ob) : WxR hb ob 19 w w' := ⟨h.size, fun b hl _ h2 => h.block b hl (h2 rfl)⟩
theorem WxR.store {hb o : Nat} {ob : Option Nat} {i : Nat} {w : World} {v : Value} : WxR hb ob i w (w.setCell ⟨hb, o, none⟩ v) := ⟨by simp, fun b _ h1 _ => heap_setCell_other _ _ _ _ h1⟩
theorem WxR.new {hb B1 b i : Nat} {ob : Option Nat} {w w' : World} {t : TypeId} {cs : Array Value} (h : WxR hb ob i w w') (hB : Bl w b t cs) (hl : B1 ≤ b) (h1 : hb < B1) (h2 : ∀ g, ob = some g → g < B1) : Bl w' b t cs := by
  unfold Bl
  rw [h.2 b hB.lt (by omega) (fun _ e => by have := h2 b e.symm; omega)]
  exact hB
theorem WxR.row {hb base size n i : Nat} {ob : Option Nat} {w w' : World} {t : TypeId} {v : Value} {xs : List Value} (h : WxR hb ob i w w') (hr : w.ownsRow base t size v n xs) (h1 : v.ownBlock ≠ some hb) (h2 : ¬ i = 19) : w'.ownsRow base t size v n xs :=
  ⟨hr.1, hr.2.elim .inl fun ⟨g, cap, cur, hv, hg, ho, r⟩ => .inr ⟨g, cap, cur, hv, hg, by rw [h.2 g (Array.getElem?_eq_some_iff.1 ho).1 (fun e => h1 (by rw [hv, e]; rfl)) (fun e => absurd e h2)]; exact ho, r⟩⟩
/-- What each operation gives. -/
def WxT (Bc B1 hb g0 : Nat) (nv2 rsv : Value) (rl N k1 k2 ru m : Nat) (cs : List Value) : Nat → Value → World → Prop
  | 0, v, _ => v = .pointer (some ⟨hb, 1, none⟩)
  | 1, v, _ => v = nv2
  | 2, v, _ => v = .int .u8 (k1 : Int)
  | 3, v, _ => v = .int .i64 (k1 : Int)
  | 4, v, _ => v = .pointer (some ⟨g0, 0, none⟩)
  | 5, v, _ => v = rsv
  | 6, v, _ => v = .int .i64 (rl : Int)
  | 7, v, _ => v = .int .i64 (ru : Int)
  | 8, v, _ => v = .agg (n1L ru).toArray
  | 9, v, W => ∃ b, v = .slice (some ⟨b, 0, none⟩) 3 3 ∧ Bl W b 3 #[.int .i64 7, .int .i64 8, .int .i64 9] ∧ B1 ≤ b
  | 10, v, _ => v = .int .u8 (k2 : Int)
  | 11, v, _ => v = .int .i64 (k2 : Int)
  | 12, v, _ => v = .int .i64 (m : Int)
  | 13, v, W => ∃ b, v = .pointer (some ⟨b, m, none⟩) ∧ Bl W b 3 #[.int .i64 7, .int .i64 8, .int .i64 9] ∧ B1 ≤ b
  | 14, v, _ => v = .int .i64 (7 + (m : Int))
  | 15, v, _ => v = .int .i64 (N : Int)
  | 16, v, W => ∃ b, v = .slice (some ⟨b, 0, none⟩) 1 1 ∧ Bl W b 3 #[.int .i64 (N : Int)] ∧ B1 ≤ b
  | 17, v, W => ∃ b, v = .agg (n2L m b).toArray ∧ Bl W b 3 #[.int .i64 (N : Int)] ∧ B1 ≤ b
  | 18, v, W => ∃ b E, v = .slice (some ⟨E, 0, none⟩) 2 2 ∧ Bl W E 35 (n1L ru ++ n2L m b).toArray ∧ B1 ≤ E ∧ Bl W b 3 #[.int .i64 (N : Int)] ∧ B1 ≤ b
  | 19, v, W => ∃ b a c, v = .slice a (N + 2) c ∧ W.ownsRow Bc 35 7 v (N + 2) (cs ++ (n1L ru ++ n2L m b)) ∧ v.ownBlock ≠ some hb ∧ Bl W b 3 #[.int .i64 (N : Int)] ∧ B1 ≤ b
  | 20, v, _ => v = .pointer (some ⟨hb, 1, none⟩)
  | _, _, _ => True
theorem WxT_mono (Bc B1 hb g0 : Nat) (nv2 rsv : Value) (rl N k1 k2 ru m : Nat) (cs : List Value) (h1 : hb < B1) (h2 : ∀ g, nv2.ownBlock = some g → g < B1) (k i : Nat) (v : Value) (w w' : World) (hki : k ≠ i) (h : WxR hb nv2.ownBlock i w w') (hT : WxT Bc B1 hb g0 nv2 rsv rl N k1 k2 ru m cs k v w) : WxT Bc B1 hb g0 nv2 rsv rl N k1 k2 ru m cs k v w' := by
  match k, hT with
  | 0, hT => exact hT
  | 1, hT => exact hT
  | 2, hT => exact hT
  | 3, hT => exact hT
  | 4, hT => exact hT
  | 5, hT => exact hT
  | 6, hT => exact hT
  | 7, hT => exact hT
  | 8, hT => exact hT
  | 9, ⟨b, e, hB, hl⟩ => exact ⟨b, e, h.new hB hl h1 h2, hl⟩
  | 10, hT => exact hT
  | 11, hT => exact hT
  | 12, hT => exact hT
  | 13, ⟨b, e, hB, hl⟩ => exact ⟨b, e, h.new hB hl h1 h2, hl⟩
  | 14, hT => exact hT
  | 15, hT => exact hT
  | 16, ⟨b, e, hB, hl⟩ => exact ⟨b, e, h.new hB hl h1 h2, hl⟩
  | 17, ⟨b, e, hB, hl⟩ => exact ⟨b, e, h.new hB hl h1 h2, hl⟩
  | 18, ⟨b, E, e, hE, hl, hB, hM⟩ => exact ⟨b, E, e, h.new hE hl h1 h2, hl, h.new hB hM h1 h2, hM⟩
  | 19, ⟨b, a, c, e, hr, ho, hB, hM⟩ => exact ⟨b, a, c, e, h.row hr ho (fun e => absurd e.symm hki), ho, h.new hB hM h1 h2, hM⟩
  | 20, hT => exact hT
  | k + 21, _ => trivial
/-- What is known of the world throughout. -/
structure WxS (Bc B1 hb : Nat) (rv2 nv2 : Value) (N m ru : Nat) (cs : List Value) (w0 : World) (L : Nat → Bool) (W : World) : Prop where
  size : B1 ≤ W.heap.size
  le : Bc ≤ B1
  low : Below Bc w0 W
  old : ∀ b, b < B1 → b ≠ hb → some b ≠ nv2.ownBlock → W.heap[b]? = w0.heap[b]?
  row : L 19 = false → W.ownsRow Bc 35 7 nv2 N cs
  box : L 21 = false → Bl W hb 25 #[rv2, nv2]
  fin : L 21 = true → ∃ b a c, Bl W hb 25 #[rv2, .slice a (N + 2) c] ∧ W.ownsRow Bc 35 7 (.slice a (N + 2) c) (N + 2) (cs ++ (n1L ru ++ n2L m b)) ∧ Bl W b 3 #[.int .i64 (N : Int)] ∧ B1 ≤ b
theorem WxS.same {Bc B1 hb N m ru : Nat} {rv2 nv2 : Value} {cs : List Value} {w0 W : World} {L : Nat → Bool} (h : WxS Bc B1 hb rv2 nv2 N m ru cs w0 L W) (k : Nat) (h1 : k ≠ 19 := by decide) (h2 : k ≠ 21 := by decide) : WxS Bc B1 hb rv2 nv2 N m ru cs w0 (fun j => if j = k then true else L j) W :=
  ⟨h.size, h.le, h.low, h.old, fun e => h.row (by rw [if_neg (fun e => h1 e.symm)] at e; exact e), fun e => h.box (by rw [if_neg (fun e => h2 e.symm)] at e; exact e), fun e => h.fin (by rw [if_neg (fun e => h2 e.symm)] at e; exact e)⟩
theorem WxS.below {Bc B1 hb N m ru : Nat} {rv2 nv2 : Value} {cs : List Value} {w0 W W' : World} {L : Nat → Bool} (h : WxS Bc B1 hb rv2 nv2 N m ru cs w0 L W) (hb' : Below W.heap.size W W') (k : Nat) (h1 : k ≠ 19 := by decide) (h2 : k ≠ 21 := by decide) : WxS Bc B1 hb rv2 nv2 N m ru cs w0 (fun j => if j = k then true else L j) W' :=
  ⟨Nat.le_trans h.size hb'.size, h.le, h.low.trans (hb'.mono (Nat.le_trans h.le h.size)), fun b hl a1 a2 => by rw [hb'.block b (by have := h.size; omega)]; exact h.old b hl a1 a2,
    fun e => ownsRow_grown (h.row (by rw [if_neg (fun e => h1 e.symm)] at e; exact e)) hb', fun e => (h.box (by rw [if_neg (fun e => h2 e.symm)] at e; exact e)).below hb',
    fun e => by obtain ⟨b, a, c, x1, x2, x3, x4⟩ := h.fin (by rw [if_neg (fun e => h2 e.symm)] at e; exact e); exact ⟨b, a, c, x1.below hb', ownsRow_grown x2 hb', x3.below hb', x4⟩⟩
theorem WxS.grown {Bc B1 hb N m ru : Nat} {rv2 nv2 : Value} {cs : List Value} {w0 W W' : World} {L : Nat → Bool} (h : WxS Bc B1 hb rv2 nv2 N m ru cs w0 L W) (hg : W.grownBy W' nv2.ownBlock) (h19 : L 19 = false) (h21 : L 21 = false) (ho : nv2.ownBlock ≠ some hb) : WxS Bc B1 hb rv2 nv2 N m ru cs w0 (fun j => if j = 19 then true else L j) W' :=
  ⟨Nat.le_trans h.size hg.size, h.le, h.low.grown hg (Nat.le_trans h.le h.size) (fun g e => ((h.row h19).lt g e).1), fun b hl a1 a2 => by rw [hg.block b (by have := h.size; omega) a2]; exact h.old b hl a1 a2,
    fun e => by simp at e, fun e => by
      have hB := h.box h21
      unfold Bl
      rw [hg.block hb hB.lt (fun e => ho e.symm)]
      exact hB, fun e => by rw [if_neg (by decide), h21] at e; cases e⟩
theorem WxS.stored {Bc B1 hb N m ru b c : Nat} {a : Option Addr} {rv2 nv2 : Value} {cs : List Value} {w0 W : World} {L : Nat → Bool} (h : WxS Bc B1 hb rv2 nv2 N m ru cs w0 L W) (h21 : L 21 = false) (hr : W.ownsRow Bc 35 7 (.slice a (N + 2) c) (N + 2) (cs ++ (n1L ru ++ n2L m b))) (ho : (Value.slice a (N + 2) c).ownBlock ≠ some hb) (hB : Bl W b 3 #[.int .i64 (N : Int)]) (hl : B1 ≤ b) (h1 : hb < B1) (ho2 : nv2.ownBlock ≠ some hb) (hbx : Bc ≤ hb) : WxS Bc B1 hb rv2 nv2 N m ru cs w0 (fun j => if j = 21 then true else L j) (W.setCell ⟨hb, 1, none⟩ (.slice a (N + 2) c)) :=
  ⟨by simpa using h.size, h.le, h.low.setCell (p := ⟨hb, 1, none⟩) hbx _, fun x hx a1 a2 => by rw [heap_setCell_other _ _ _ _ a1]; exact h.old x hx a1 a2, fun e => (WxR.store (ob := none) (i := 0)).row (h.row (by rw [if_neg (by decide)] at e; exact e)) ho2 (by decide), fun e => (by simp at e),
    fun _ => ⟨b, a, c, (by unfold Bl; rw [heap_setCell_same W hb 1 _ 25 _ (h.box h21)]; simp), (WxR.store (ob := none) (i := 0)).row hr ho (by decide), hB.other (by omega) _, hl⟩⟩
theorem WxS.keep {Bc B1 hb N m ru base size n : Nat} {t : TypeId} {rv2 nv2 v : Value} {xs cs : List Value} {w0 W : World} {L : Nat → Bool} (h : WxS Bc B1 hb rv2 nv2 N m ru cs w0 L W) (hr : w0.ownsRow base t size v n xs) (hz : w0.heap.size = B1) (h1 : v.ownBlock ≠ some hb) (h2 : ∀ g, v.ownBlock = some g → some g ≠ nv2.ownBlock) : W.ownsRow base t size v n xs :=
  ⟨hr.1, hr.2.elim .inl fun ⟨g, cap, cur, hv, hg, ho, r⟩ => .inr ⟨g, cap, cur, hv, hg, by rw [h.old g (by rw [← hz]; exact (Array.getElem?_eq_some_iff.1 ho).1) (fun e => h1 (by rw [hv, e]; rfl)) (h2 g (by rw [hv]; rfl))]; exact ho, r⟩⟩
/-- Two rows of different types have different blocks. -/
theorem rows_apart {w : World} {b1 b2 s1 s2 n1 n2 : Nat} {t1 t2 : TypeId} {u v : Value} {xs ys : List Value} (h1 : w.ownsRow b1 t1 s1 u n1 xs) (h2 : w.ownsRow b2 t2 s2 v n2 ys) (ht : t1 ≠ t2) (g : Nat) (e : u.ownBlock = some g) : some g ≠ v.ownBlock := fun e' => by
  rcases h1.2 with ⟨rfl, -⟩ | ⟨g1, _, _, rfl, -, o1, -⟩
  · cases e
  rcases h2.2 with ⟨rfl, -⟩ | ⟨g2, _, _, rfl, -, o2, -⟩
  · cases e'
  injection e with e
  injection e' with e'
  have e : g1 = g := e
  have e' : g = g2 := e'
  subst e e'
  rw [o1] at o2
  injection o2 with o2
  injection o2 with _ o2
  exact ht o2
/-- What region 11 leaves: nothing but the box and the rules' row changes. -/
def Wy (X : Nat) (ob : Option Nat) (w w' : World) : Prop := w.heap.size ≤ w'.heap.size ∧ ∀ b, b < w.heap.size → b ≠ X → some b ≠ ob → w'.heap[b]? = w.heap[b]?
theorem Wy.mk {X o : Nat} {ob : Option Nat} {w w1 w2 : World} {v : Value} (h1 : Below w.heap.size w w1) (h2 : w1.grownBy w2 ob) : Wy X ob w (w2.setCell ⟨X, o, none⟩ v) :=
  ⟨by rw [World.size_setCell]; exact Nat.le_trans h1.size h2.size, fun b hl a1 a2 => by rw [heap_setCell_other _ _ _ _ a1, h2.block b (Nat.lt_of_lt_of_le hl h1.size) a2, h1.block b hl]⟩
theorem Wy.row {X base size n : Nat} {ob : Option Nat} {w w' : World} {t : TypeId} {v : Value} {xs : List Value} (h : Wy X ob w w') (hr : w.ownsRow base t size v n xs) (h1 : v.ownBlock ≠ some X) (h2 : ∀ g, v.ownBlock = some g → some g ≠ ob) : w'.ownsRow base t size v n xs :=
  ⟨hr.1, hr.2.elim .inl fun ⟨g, cap, cur, hv, hg, ho, r⟩ => .inr ⟨g, cap, cur, hv, hg, by rw [h.2 g (Array.getElem?_eq_some_iff.1 ho).1 (fun e => h1 (by rw [hv, e]; rfl)) (h2 g (by rw [hv]; rfl))]; exact ho, r⟩⟩
theorem Wy.bl {X b : Nat} {ob : Option Nat} {w w' : World} {t : TypeId} {cs : Array Value} (h : Wy X ob w w') (hB : Bl w b t cs) (h1 : b ≠ X) (h2 : some b ≠ ob) : Bl w' b t cs := by
  unfold Bl
  rw [h.2 b hB.lt h1 h2]
  exact hB
end
end Go.Proofs.Ytnfjbjmdempafaa
