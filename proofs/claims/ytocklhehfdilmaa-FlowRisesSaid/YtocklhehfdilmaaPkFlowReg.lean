/- FlowRises's drawn region: the law that it goes by, and its table. -/
import Derived.Test.YtocklhehfdilmaaPkG
import Derived.Test.YtocklhehfdilmaaPkH
import Derived.Test.YtocklhehfdilmaaPkFlowRef
namespace Go.Proofs.Ytocklhehfdilmaa
section
open Go.RowKit
/-- Of the blocks of one type from lo on nothing changes but cells behind the first k, which become elem. -/
def FRK (lo : Nat) (e : TypeId) (k : Nat) (elem : List Value) (W W' : World) : Prop :=
  W.heap.size ≤ W'.heap.size ∧ ∀ (b : Nat) (c : Array Value), lo ≤ b → W.heap[b]? = some (.cells c e (0, 0)) → ∃ c' : Array Value, W'.heap[b]? = some (.cells c' e (0, 0)) ∧ c'.size = c.size ∧ ∀ j, j < c.size → c'[j]? = c[j]? ∨ (k ≤ j ∧ k + elem.length ≤ c.size ∧ c'[j]? = elem[j - k]?)
section
variable {lo k sz n : Nat} {e : TypeId} {elem xs : List Value} {W W' : World} {v : Value}
theorem FRK.refl : FRK lo e k elem W W := ⟨Nat.le_refl _, fun _ c _ h => ⟨c, h, rfl, fun _ _ => .inl rfl⟩⟩
theorem FRK.of_grown (h : W.grownBy W' none) : FRK lo e k elem W W' := ⟨h.size, fun b c _ hb => ⟨c, by rw [h.block b (Array.getElem?_eq_some_iff.1 hb).1 (by simp)]; exact hb, rfl, fun _ _ => .inl rfl⟩⟩
theorem FRK.trans {W'' : World} (h : FRK lo e k elem W W') (h' : FRK lo e k elem W' W'') : FRK lo e k elem W W'' := ⟨Nat.le_trans h.1 h'.1, fun b c hb hc => by
  obtain ⟨c', h1, h2, h3⟩ := h.2 b c hb hc
  obtain ⟨c'', g1, g2, g3⟩ := h'.2 b c' hb h1
  refine ⟨c'', g1, g2.trans h2, fun j hj => ?_⟩
  rcases g3 j (by omega) with g | ⟨g4, g5, g6⟩
  · rcases h3 j hj with h | ⟨h4, h5, h6⟩
    · exact .inl (g.trans h)
    · exact .inr ⟨h4, h5, g.trans h6⟩
  · exact .inr ⟨g4, by omega, g6⟩⟩
theorem FRK.row (h : FRK lo e k elem W W') (hr : W.ownsRow lo e sz v n xs) (hk : n * sz ≤ k ∨ ∃ cs, xs = cs ++ elem ∧ cs.length = k) : W'.ownsRow lo e sz v n xs := by
  rcases hr.2 with hn | ⟨g, cap, cur, rfl, hg, hW, hnc, hcm, hcs, ht⟩
  · exact ⟨hr.1, .inl hn⟩
  · obtain ⟨c', h1, h2, h3⟩ := h.2 g cur hg hW
    refine ⟨hr.1, .inr ⟨g, cap, c', rfl, hg, h1, hnc, hcm, by rw [h2]; exact hcs, ?_⟩⟩
    have hle : n * sz ≤ cur.size := by rw [hcs]; exact Nat.mul_le_mul_right _ hnc
    refine List.ext_getElem? fun j => ?_
    rw [List.getElem?_take, Array.getElem?_toList]
    by_cases hj : j < n * sz
    · rw [if_pos hj]
      have hx : xs[j]? = cur[j]? := by rw [← ht, List.getElem?_take, if_pos hj, Array.getElem?_toList]
      rcases h3 j (by omega) with h4 | ⟨h4, h5, h6⟩
      · rw [h4, hx]
      · rcases hk with hk | ⟨cs, hcs2, hk⟩
        · omega
        · rw [h6, hcs2, List.getElem?_append_right (by omega), hk]
    · rw [if_neg hj, List.getElem?_eq_none (by rw [hr.1]; omega)]
end
section
variable {P : Program} (w : World) (lo : Nat) (t ty e : TypeId) (i : TypeInfo) (z : Value) (size bytes : Nat) (ht : P.underlying t = some (.slice e)) (hi : P.info? e = some i) (hz : i.zero = some z)
    (hsize : i.size = size) (hby : i.bytes = bytes) (hzs : z.cells.size = size)
include ht hi hz hsize hby hzs
/-- The second. -/
theorem app2F (a : Option Addr) (n c : Nat) (xs : List Value) (hown : w.ownsRow lo e size (.slice a n c) n xs) (E c1 : Nat) (elem : List Value) (hE : w.ownsRow lo e size (.slice (some ⟨E, 0, none⟩) 1 c1) 1 elem) (h1 : ∀ u ∈ elem, u.oneCell' = true)
    (h63 : n + 1 ≤ maxLen) (hbytes : (n + 1) * bytes ≤ 140737488355328) (hbase : lo ≤ w.heap.size) :
    ∃ a' c' w', (Builtin.append_ #[t, t] ty #[.slice a n c, .slice (some ⟨E, 0, none⟩) 1 c1]).run P w = .ok (.slice a' (n + 1) c') w' ∧ w'.ownsRow lo e size (.slice a' (n + 1) c') (n + 1) (xs ++ elem) ∧ FRK lo e (n * size) elem w w' ∧ Below lo w w' := by
  subst hsize
  subst hby
  have hl : elem.length = 1 * i.size := hE.1
  have hlen : (xs ++ elem).length = (n + 1) * i.size := by rw [List.length_append, hown.1, hl, Nat.add_mul]
  have hnews : ∀ j u, elem[j]? = some u → w.cell? ((⟨E, 0, none⟩ : Addr).add j) = some u := fun j u h => hE.cells rfl j u h
  have hsmall : n + 1 ≤ 9223372036854775807 := by simp only [maxLen] at h63; omega
  have grown : ∀ (old : Nat), old < n + 1 →
      (w.drew.alloc (.cells (xs.toArray ++ elem.toArray ++ Builtin.zeroCells z.cells (grownCap w (n + 1) old e - (n + 1))) e)).ownsRow lo e i.size
        (.slice (some ⟨w.heap.size, 0, none⟩) (n + 1) (grownCap w (n + 1) old e)) (n + 1) (xs ++ elem) ∧
      w.grownBy (w.drew.alloc (.cells (xs.toArray ++ elem.toArray ++ Builtin.zeroCells z.cells (grownCap w (n + 1) old e - (n + 1))) e)) none := by
    intro old ho
    have hge := grownCap_ge w (n + 1) old e
    have hcm : grownCap w (n + 1) old e ≤ maxLen := grownCap_le_maxLen w (n + 1) old e h63
    refine ⟨⟨hlen, .inr ⟨w.heap.size, _, _, rfl, hbase, heap_alloc_new w.drew _, hge, hcm, ?_, ?_⟩⟩, ⟨rfl, rfl, rfl, by simp, fun k hk _ => heap_alloc_old w.drew _ hk⟩⟩
    · simp only [Array.size_append, List.size_toArray, size_zeroCells, hzs, hown.1, hl, ← Nat.add_mul]
      congr 1
      omega
    · simp only [Array.toList_append, List.append_assoc]
      rw [← List.append_assoc, ← hlen]
      exact List.take_left
  rcases hown.2 with ⟨hv, rfl⟩ | ⟨g, cap, cur, hv, hbg, hg, hnc, hcm, hcs, htake⟩
  · injection hv with e1 _ e3
    subst e1 e3
    have hx : xs = [] := List.eq_nil_of_length_eq_zero (by simpa using hown.1)
    subst hx
    have hr := run_append_nil (P := P) w t ty e i z ht hi hz ⟨E, 0, none⟩ 1 c1 elem hl hnews (by omega) (by omega) (by have hb := hbytes; simp only [Nat.zero_add] at hb; omega)
    have hgr := grown 0 (by omega)
    simp only [Nat.zero_add, List.nil_append, Array.empty_append] at hgr ⊢
    exact ⟨_, _, _, hr, hgr.1, .of_grown hgr.2, (below_of_grown hgr.2).mono hbase⟩
  · injection hv with e1 _ e3
    subst e1 e3
    by_cases hroom : n + 1 ≤ c
    · have hfit : n * i.size + elem.length ≤ cur.size := by rw [hl, hcs, ← Nat.add_mul]; exact Nat.mul_le_mul_right _ hroom
      have hr := run_append_room (P := P) w t ty e i ht hi g n c cur hg ⟨E, 0, none⟩ 1 c1 elem hl hnews h1 hroom hfit
      refine ⟨_, _, _, hr, ⟨hlen, .inr ⟨g, c, _, rfl, hbg, setRow_heap w g cur _ e _ hg, hroom, hcm, ?_, ?_⟩⟩, ⟨by simp [World.setRow], fun b cc hb hcc => ?_⟩, ⟨rfl, rfl, rfl, by simp [World.setRow], fun b hb => setRow_other w g b _ (by omega)⟩⟩
      · simp only [List.size_toArray, List.length_append, List.length_take, List.length_drop, Array.length_toList]
        omega
      · rw [htake, ← hlen]
        exact List.take_left
      · by_cases hbe : b = g
        · subst hbe
          rw [hg] at hcc
          injection hcc with hcc
          injection hcc with hcc
          subst hcc
          refine ⟨_, setRow_heap w b cur _ e _ hg, ?_, fun j hj => ?_⟩
          · simp only [List.size_toArray, List.length_append, List.length_take, List.length_drop, Array.length_toList]
            omega
          · have hxl : (cur.toList.take (n * i.size)).length = n * i.size := by rw [List.length_take, Array.length_toList]; omega
            rw [List.getElem?_toArray]
            by_cases hj1 : j < n * i.size
            · left
              rw [List.append_assoc, List.getElem?_append_left (by rw [hxl]; exact hj1), List.getElem?_take, if_pos hj1, Array.getElem?_toList]
            · by_cases hj2 : j < n * i.size + elem.length
              · right
                refine ⟨by omega, hfit, ?_⟩
                rw [List.append_assoc, List.getElem?_append_right (by rw [hxl]; omega), hxl, List.getElem?_append_left (by omega)]
              · left
                rw [List.getElem?_append_right (by rw [List.length_append, hxl]; omega), List.length_append, hxl, List.getElem?_drop, Array.getElem?_toList]
                congr 1
                omega
        · exact ⟨cc, by rw [setRow_other w g b _ hbe]; exact hcc, rfl, fun _ _ => .inl rfl⟩
    · have holds : ∀ j u, xs[j]? = some u → w.cell? ((⟨g, 0, none⟩ : Addr).add j) = some u := hown.cells (g := g) rfl
      have hr := run_append_grow (P := P) w t ty e i z ht hi hz ⟨g, 0, none⟩ n c xs hown.1 holds ⟨E, 0, none⟩ 1 c1 elem hl hnews (by omega) (by omega) (growslice_fits (by omega) hbytes)
      have hgr := grown c (by omega)
      exact ⟨_, _, _, hr, hgr.1, .of_grown hgr.2, (below_of_grown hgr.2).mono hbase⟩
end
end
section
open Go.RowKit
theorem fill_eval_un : ∀ (l : List Oper) (i : Nat) (L : Nat → Bool) (vals : Nat → Value) (a : Act) (t : Tmp), (∀ j o, l[j]? = some o → o.dst = some t → L (i + j) = false) → (fill l i L vals a).eval (.tmp t) = a.eval (.tmp t)
  | [], _, _, _, _, _, _ => rfl
  | o :: r, i, L, vals, a, t, h => by
    unfold fill
    rw [fill_eval_un r (i + 1) L vals _ t fun j o' h1 h2 => by rw [show i + 1 + j = i + (j + 1) from by omega]; exact h (j + 1) o' (by simpa using h1) h2]
    split
    · rename_i hL
      refine Act.eval_put fun d hd he => ?_
      have := h 0 o rfl (by injection he with he; rw [hd, he])
      rw [Nat.add_zero, hL] at this
      cases this
    · rfl
/-- t is assigned by no operation but i. -/
def onlyB (l : List Oper) (t : Tmp) (i : Nat) : Bool := (List.range l.length).all fun j => match l[j]? with
  | some o => o.dst != some t || j == i
  | none => true
theorem un_none {l : List Oper} {t : Tmp} {L : Nat → Bool} (h : (l.all fun o => o.dst != some t) = true) : ∀ j o, l[j]? = some o → o.dst = some t → L j = false := fun j o h1 h2 => by
  have := List.all_eq_true.1 h o (List.mem_of_getElem? h1)
  rw [h2] at this
  simp at this
theorem un_last {l : List Oper} {t : Tmp} {i : Nat} {L : Nat → Bool} (h : onlyB l t i = true) (hL : L i = false) : ∀ j o, l[j]? = some o → o.dst = some t → L j = false := fun j o h1 h2 => by
  have hj := (List.getElem?_eq_some_iff.1 h1).1
  have := List.all_eq_true.1 h j (List.mem_range.2 hj)
  rw [h1] at this
  dsimp only at this
  rw [h2] at this
  simp at this
  rw [this]; exact hL
/-- what is owed for one operation -/
def StepUn (P : Program) (l : List Oper) (a0 : Act) (T : Nat → Value → World → Prop) (R : World → World → Prop) (S : (Nat → Bool) → World → Prop) (Q : Exit → Act → World → Prop) (i : Nat) (o : Oper) : Prop :=
  ∀ (L : Nat → Bool) (a : Act) (w : World), L i = false → (∀ j, waitsB l j i = true → L j = false) → S L w → (∀ t, (∀ j o, l[j]? = some o → o.dst = some t → L j = false) → a.eval (.tmp t) = a0.eval (.tmp t)) → (∀ k d, depB l o k d = true → T k (a.eval (.tmp d)) w) →
    if Region.wanted o (yielded l.toArray a.tmps) then o.wp P a w (fun a' w' => ∃ v, a' = a.put o.dst v ∧ T i v w' ∧ R w w' ∧ S (fun k => if k = i then true else L k) w') Q else T i undef w ∧ R w w ∧ S (fun k => if k = i then true else L k) w
def StepsUn (P : Program) (l : List Oper) (a0 : Act) (T : Nat → Value → World → Prop) (R : World → World → Prop) (S : (Nat → Bool) → World → Prop) (Q : Exit → Act → World → Prop) : Nat → List Oper → Prop
  | _, [] => True
  | i, o :: r => StepUn P l a0 T R S Q i o ∧ StepsUn P l a0 T R S Q (i + 1) r
theorem StepsUn.at {P : Program} {l : List Oper} {a0 : Act} {T : Nat → Value → World → Prop} {R : World → World → Prop} {S : (Nat → Bool) → World → Prop} {Q : Exit → Act → World → Prop} :
    ∀ {r : List Oper} {i : Nat}, StepsUn P l a0 T R S Q i r → ∀ {j : Nat} {o : Oper}, r[j]? = some o → StepUn P l a0 T R S Q (i + j) o
  | [], _, _, _, _, h => by cases h
  | o :: r, i, h, 0, o', h' => by cases h'; exact h.1
  | o :: r, i, h, j + 1, o', h' => by rw [show i + (j + 1) = i + 1 + j from by omega]; exact h.2.at h'
/-- THE LAW. -/
theorem wp_region_un {P : Program} {id : Nat} {l : List Oper} {a0 : Act} {w0 : World} {Q : Exit → Act → World → Prop} (hm : P.follows .mixedOrders = true) (T : Nat → Value → World → Prop) (R : World → World → Prop) (S : (Nat → Bool) → World → Prop)
    (hap : apartB l = true) (hsz : (l.all fun o => match o.dst with | some d => decide (d < a0.tmps.size) | none => true) = true)
    (hback : backB l 0 = true)
    (hmono : ∀ k v w w', R w w' → T k v w → T k v w') (hS : S (fun _ => false) w0.drew)
    (hsteps : StepsUn P l a0 T R S Q 0 l)
    (hdone : ∀ (vals : Nat → Value) (w : World), (∀ k, k < l.length → T k (vals k) w) → (∃ L : Nat → Bool, (∀ k, k < l.length → L k = true) ∧ S L w) → Q .normal (fill l 0 (fun _ => true) vals a0) w) :
    (Code.region id l.toArray true).wp P Q a0 w0 := by
  refine wp_region_any hm ?_
  refine wpAny_inv (fun listed a w => listed.size = l.length ∧ ∃ vals : Nat → Value, a = fill l 0 (fun k => listed.getD k false) vals a0 ∧ (∀ k, listed.getD k false = true → T k (vals k) w) ∧ S (fun k => listed.getD k false) w ∧ ∀ j i, waitsB l j i = true → listed.getD j false = true → listed.getD i false = true) ?_ ?_ _ _ _ _ ?_ (by simp) ?_
  · rintro listed a w i o ho hi ⟨hls, vals, rfl, hT, hSw, hcl⟩
    obtain ⟨h1, o', ho', hdeps⟩ := mem_ready.1 hi
    rw [ho] at ho'; cases ho'
    have ho2 : l[i]? = some o := by simpa using ho
    have hil : i < l.length := (List.getElem?_eq_some_iff.1 ho2).1
    have h1' : listed.getD i false = false := by
      rw [Array.getD_eq_getD_getElem?, Array.getElem?_eq_getElem (by omega)] at h1 ⊢; exact h1
    have hst := hsteps.at ho2 (fun k => listed.getD k false) (fill l 0 (fun k => listed.getD k false) vals a0) w (by rw [Nat.zero_add]; exact h1')
      (fun j hj => by
        rw [Nat.zero_add] at hj
        cases hlj : listed.getD j false with
        | false => rfl
        | true => rw [hcl j i hj hlj] at h1'; cases h1')
      hSw
      (fun t ht => fill_eval_un l 0 _ vals a0 t fun j o h1 h2 => by rw [Nat.zero_add]; exact ht j o h1 h2)
      (fun k d hd => by
        unfold depB at hd
        rw [Bool.and_eq_true] at hd
        obtain ⟨e, he, hek⟩ := Array.any_eq_true'.1 hd.1
        rw [Bool.and_eq_true, beq_iff_eq] at hek
        have hlk := hdeps e he hek.2
        rw [hek.1] at hlk
        have hd2 : (l[k]?).bind (·.dst) = some d := by simpa using hd.2
        obtain ⟨ok, hok, hdk⟩ := Option.bind_eq_some_iff.1 hd2
        have hds : d < a0.tmps.size := by
          have := List.all_eq_true.1 hsz ok (List.mem_of_getElem? hok)
          rw [hdk] at this; simpa using this
        rw [fill_eval l 0 k ok d _ vals a0 hap hok hdk (by rw [Nat.zero_add]; exact hlk) hds, Nat.zero_add]
        exact hT k hlk)
    rw [Nat.zero_add] at hst
    have hL : (fun k => if k = i then true else listed.getD k false) = fun k => (listed.setIfInBounds i true).getD k false := by
      funext k
      by_cases hk : k = i
      · subst hk
        rw [if_pos rfl, Array.getD_eq_getD_getElem?, Array.getElem?_setIfInBounds_self_of_lt (by omega)]; rfl
      · rw [if_neg hk, getD_set_ne false (by omega)]
    have hcl' : ∀ j k, waitsB l j k = true → (listed.setIfInBounds i true).getD j false = true → (listed.setIfInBounds i true).getD k false = true := by
      intro j k hjk hj
      by_cases hji : j = i
      · subst hji
        unfold waitsB at hjk
        rw [ho2] at hjk
        obtain ⟨e, he, hek⟩ := Array.any_eq_true'.1 hjk
        rw [Bool.and_eq_true, beq_iff_eq] at hek
        have := hdeps e he hek.2
        rw [hek.1] at this
        exact getD_set_true this
      · rw [getD_set_ne false (by omega)] at hj
        exact getD_set_true (hcl j k hjk hj)
    have next : ∀ (v : Value) (w' : World), T i v w' → R w w' → S (fun k => if k = i then true else listed.getD k false) w' → (listed.setIfInBounds i true).size = l.length ∧ ∃ vals' : Nat → Value, (fill l 0 (fun k => listed.getD k false) vals a0).put o.dst v = fill l 0 (fun k => (listed.setIfInBounds i true).getD k false) vals' a0 ∧ (∀ k, (listed.setIfInBounds i true).getD k false = true → T k (vals' k) w') ∧ S (fun k => (listed.setIfInBounds i true).getD k false) w' ∧ ∀ j k, waitsB l j k = true → (listed.setIfInBounds i true).getD j false = true → (listed.setIfInBounds i true).getD k false = true := by
      intro v w' hTv hb hS'
      rw [hL] at hS'
      refine ⟨by simpa using hls, fun k => if k = 0 + i then v else vals k, ?_, ?_, hS', hcl'⟩
      · rw [fill_set l 0 i o _ vals a0 v hap ho2 (by rw [Nat.zero_add]; exact h1')]
        refine fill_congr _ _ _ _ _ _ _ fun k _ => ⟨?_, rfl⟩
        by_cases hk : k = i
        · subst hk
          rw [if_pos (by omega), Array.getD_eq_getD_getElem?, Array.getElem?_setIfInBounds_self_of_lt (by omega)]; rfl
        · rw [if_neg (by omega), getD_set_ne false (by omega)]
      · intro k hk
        by_cases hki : k = i
        · subst hki; simp only [Nat.zero_add, if_true]; exact hTv
        · simp only [Nat.zero_add, hki, if_false]
          rw [getD_set_ne false (by omega)] at hk
          exact hmono k _ w w' hb (hT k hk)
    unfold wpOp
    simp only [ho]
    split
    · rename_i hw
      rw [if_pos hw] at hst
      refine .inl (Oper.wp_mono ?_ hst)
      rintro a' w' ⟨v, rfl, hTv, hb, hS'⟩
      exact next v w' hTv hb hS'
    · rename_i hw
      rw [if_neg hw] at hst
      exact next undef w hst.1 hst.2.1 hst.2.2
  · rintro listed a w hr ⟨hls, vals, rfl, hT, hSw, hcl⟩
    have hall := all_listed hback hr hls
    have e : fill l 0 (fun k => listed.getD k false) vals a0 = fill l 0 (fun _ => true) vals a0 := by
      have go : ∀ (r : List Oper) (i : Nat) (a : Act), i + r.length = l.length → fill r i (fun k => listed.getD k false) vals a = fill r i (fun _ => true) vals a := by
        intro r
        induction r with
        | nil => intro i a _; rfl
        | cons o r ih =>
          intro i a h
          simp only [List.length_cons] at h
          have hi := hall i (by omega)
          unfold fill
          simp only [hi]
          exact ih (i + 1) _ (by omega)
      exact go l 0 a0 (by omega)
    rw [e]
    exact hdone vals w (fun k hk => hT k (hall k hk)) ⟨_, hall, hSw⟩
  · simp [List.filter_eq_self.2]
  · have hfalse : (fun k => (Array.replicate l.toArray.size false).getD k false) = fun _ => false := by
      funext k; rw [Array.getD_eq_getD_getElem?, Array.getElem?_replicate]; split <;> rfl
    refine ⟨by simp, fun _ => undef, ?_, fun k hk => ?_, by rw [hfalse]; exact hS, fun j i _ hj => ?_⟩
    · have go : ∀ (r : List Oper) (i : Nat) (a : Act), fill r i (fun k => (Array.replicate l.toArray.size false).getD k false) (fun _ => undef) a = a := by
        intro r
        induction r with
        | nil => intro i a; rfl
        | cons o r ih =>
          intro i a
          unfold fill
          have hf : (Array.replicate l.toArray.size false).getD i false = false := by
            rw [Array.getD_eq_getD_getElem?, Array.getElem?_replicate]; split <;> rfl
          simp only [hf, Bool.false_eq_true, if_false]
          exact ih (i + 1) a
      exact (go l 0 a0).symm
    · have hf : (Array.replicate l.toArray.size false).getD k false = false := by
        rw [Array.getD_eq_getD_getElem?, Array.getElem?_replicate]; split <;> rfl
      rw [hf] at hk; cases hk
    · have hf : (Array.replicate l.toArray.size false).getD j false = false := by
        rw [Array.getD_eq_getD_getElem?, Array.getElem?_replicate]; split <;> rfl
      rw [hf] at hj; cases hj

end
section
variable (B0 lb lo lc mb mo mc n k uc : Nat) (ua : Option Addr) (xa xb xc ya yb yc : Bool) (cs elem : List Value)
/-- What each operation gives. -/
def LwT : Nat → Value → World → Prop
  | 0, v, W => v = .slice ua k uc ∧ W.ownsRow B0 35 3 v k cs
  | 1, v, _ => v = .slice (some ⟨lb, lo, none⟩) n lc
  | 2, v, _ => v = .int .i64 (k : Int)
  | 3, v, _ => v = .pointer (some ⟨lb, lo + k * 3, none⟩)
  | 4, v, _ => v = .pointer (some ⟨lb, lo + k * 3, none⟩)
  | 5, v, _ => v = .bool xa
  | 6, v, _ => v = .bool xa
  | 7, v, _ => xa = false → v = .slice (some ⟨mb, mo, none⟩) n mc
  | 8, v, _ => xa = false → v = .int .i64 (k : Int)
  | 9, v, _ => xa = false → v = .pointer (some ⟨mb, mo + k * 3, none⟩)
  | 10, v, _ => xa = false → v = .pointer (some ⟨mb, mo + k * 3, none⟩)
  | 11, v, _ => xa = false → v = .bool ya
  | 12, v, _ => v = .bool (xa || ya)
  | 13, v, _ => v = .slice (some ⟨lb, lo, none⟩) n lc
  | 14, v, _ => v = .int .i64 (k : Int)
  | 15, v, _ => v = .pointer (some ⟨lb, lo + k * 3, none⟩)
  | 16, v, _ => v = .pointer (some ⟨lb, lo + k * 3 + 1, none⟩)
  | 17, v, _ => v = .bool xb
  | 18, v, _ => v = .bool xb
  | 19, v, _ => xb = false → v = .slice (some ⟨mb, mo, none⟩) n mc
  | 20, v, _ => xb = false → v = .int .i64 (k : Int)
  | 21, v, _ => xb = false → v = .pointer (some ⟨mb, mo + k * 3, none⟩)
  | 22, v, _ => xb = false → v = .pointer (some ⟨mb, mo + k * 3 + 1, none⟩)
  | 23, v, _ => xb = false → v = .bool yb
  | 24, v, _ => v = .bool (xb || yb)
  | 25, v, _ => v = .slice (some ⟨lb, lo, none⟩) n lc
  | 26, v, _ => v = .int .i64 (k : Int)
  | 27, v, _ => v = .pointer (some ⟨lb, lo + k * 3, none⟩)
  | 28, v, _ => v = .pointer (some ⟨lb, lo + k * 3 + 2, none⟩)
  | 29, v, _ => v = .bool xc
  | 30, v, _ => v = .bool xc
  | 31, v, _ => xc = false → v = .slice (some ⟨mb, mo, none⟩) n mc
  | 32, v, _ => xc = false → v = .int .i64 (k : Int)
  | 33, v, _ => xc = false → v = .pointer (some ⟨mb, mo + k * 3, none⟩)
  | 34, v, _ => xc = false → v = .pointer (some ⟨mb, mo + k * 3 + 2, none⟩)
  | 35, v, _ => xc = false → v = .bool yc
  | 36, v, _ => v = .bool (xc || yc)
  | 37, v, _ => v = .agg #[.bool (xa || ya), .bool (xb || yb), .bool (xc || yc)]
  | 38, v, W => ∃ E, v = .slice (some ⟨E, 0, none⟩) 1 1 ∧ W.ownsRow B0 35 3 v 1 elem
  | 39, v, W => ∃ a c, v = .slice a (k + 1) c ∧ W.ownsRow B0 35 3 v (k + 1) (cs ++ elem)
  | 40, v, W => ∃ a c, v = .slice a (k + 1) c ∧ W.ownsRow B0 35 3 v (k + 1) (cs ++ elem)
  | _, _, _ => True
theorem LwT_mono (hcs : cs.length = k * 3) (i : Nat) (v : Value) (w w' : World) (h : FRK B0 35 (k * 3) elem w w') (hT : LwT B0 lb lo lc mb mo mc n k uc ua xa xb xc ya yb yc cs elem i v w) : LwT B0 lb lo lc mb mo mc n k uc ua xa xb xc ya yb yc cs elem i v w' := by
  match i, hT with
  | 0, ⟨e, hT⟩ => exact ⟨e, h.row hT (.inl (Nat.le_refl _))⟩
  | 1, hT => exact hT
  | 2, hT => exact hT
  | 3, hT => exact hT
  | 4, hT => exact hT
  | 5, hT => exact hT
  | 6, hT => exact hT
  | 7, hT => exact hT
  | 8, hT => exact hT
  | 9, hT => exact hT
  | 10, hT => exact hT
  | 11, hT => exact hT
  | 12, hT => exact hT
  | 13, hT => exact hT
  | 14, hT => exact hT
  | 15, hT => exact hT
  | 16, hT => exact hT
  | 17, hT => exact hT
  | 18, hT => exact hT
  | 19, hT => exact hT
  | 20, hT => exact hT
  | 21, hT => exact hT
  | 22, hT => exact hT
  | 23, hT => exact hT
  | 24, hT => exact hT
  | 25, hT => exact hT
  | 26, hT => exact hT
  | 27, hT => exact hT
  | 28, hT => exact hT
  | 29, hT => exact hT
  | 30, hT => exact hT
  | 31, hT => exact hT
  | 32, hT => exact hT
  | 33, hT => exact hT
  | 34, hT => exact hT
  | 35, hT => exact hT
  | 36, hT => exact hT
  | 37, hT => exact hT
  | 38, ⟨E, e, hT⟩ =>
    refine ⟨E, e, h.row hT ?_⟩
    rcases Nat.eq_zero_or_pos k with h0 | h0
    · exact .inr ⟨[], rfl, by subst h0; rfl⟩
    · exact .inl (by omega)
  | 39, ⟨a, c, e, hT⟩ => exact ⟨a, c, e, h.row hT (.inr ⟨cs, rfl, hcs⟩)⟩
  | 40, ⟨a, c, e, hT⟩ => exact ⟨a, c, e, h.row hT (.inr ⟨cs, rfl, hcs⟩)⟩
  | i + 41, _ => trivial
end
end Go.Proofs.Ytocklhehfdilmaa
