/- Facts of nodes as plain lists: the table, steps, the least facts; that they are reached in time, and the invariant of a search that looks again at what has changed. No walk. -/
import Derived.Test.YtocklhehfdilmaaPkA
namespace Go.Proofs.Ytocklhehfdilmaa
/-- Facts: null, eat, fail. -/
structure Fc where
  nul : Bool
  eat : Bool
  fai : Bool
theorem Fc.eq_iff (f g : Fc) : (f.nul = g.nul ∧ f.eat = g.eat ∧ f.fai = g.fai) ↔ f = g := by cases f; cases g; simp
instance : DecidableEq Fc := fun f g => decidable_of_iff _ (Fc.eq_iff f g)
def fc0 : Fc := ⟨false, false, false⟩
def Fc.ok (f : Fc) : Bool := f.nul || f.eat
def bleB (a b : Bool) : Prop := a = true → b = true
structure Fle (f g : Fc) : Prop where
  nul : bleB f.nul g.nul
  eat : bleB f.eat g.eat
  fai : bleB f.fai g.fai
theorem bleB.refl (a : Bool) : bleB a a := id
theorem bleB.or {a b c d : Bool} (h : bleB a b) (k : bleB c d) : bleB (a || c) (b || d) := by
  intro e; rw [Bool.or_eq_true] at e ⊢; exact e.imp h k
theorem bleB.and {a b c d : Bool} (h : bleB a b) (k : bleB c d) : bleB (a && c) (b && d) := by
  intro e; rw [Bool.and_eq_true] at e ⊢; exact ⟨h e.1, k e.2⟩
theorem Fle.refl (f : Fc) : Fle f f := ⟨id, id, id⟩
theorem Fle.trans {f g h : Fc} (a : Fle f g) (b : Fle g h) : Fle f h := ⟨fun e => b.nul (a.nul e), fun e => b.eat (a.eat e), fun e => b.fai (a.fai e)⟩
theorem Fle.none (f : Fc) : Fle fc0 f := ⟨(fun h => by cases h), (fun h => by cases h), (fun h => by cases h)⟩
theorem Fle.okm {f g : Fc} (h : Fle f g) : bleB f.ok g.ok := h.nul.or h.eat
/-- The facts at an index: none at one of no node. -/
def atF (l : List Fc) (i : Int) : Fc := if i < 0 then fc0 else (l[i.toNat]?).getD fc0
theorem atF_neg {l : List Fc} {i : Int} (h : i < 0) : atF l i = fc0 := by unfold atF; rw [if_pos h]
theorem atF_nat (l : List Fc) (i : Nat) : atF l (i : Int) = (l[i]?).getD fc0 := by unfold atF; rw [if_neg (by omega), Int.toNat_natCast]
theorem atF_some {l : List Fc} {i : Nat} {x : Fc} (h : l[i]? = some x) : atF l (i : Int) = x := by rw [atF_nat, h]; rfl
theorem atF_big {l : List Fc} {i : Int} (h : (l.length : Int) ≤ i) : atF l i = fc0 := by
  obtain ⟨k, rfl⟩ : ∃ k : Nat, i = k := ⟨i.toNat, by omega⟩
  rw [atF_nat, List.getElem?_eq_none (by omega)]; rfl
def rootF (rs : List PR) (r : Int) : Int := if r < 0 then -1 else match rs[r.toNat]? with
  | some x => x.root
  | none => -1
theorem rootF_neg {rs : List PR} {r : Int} (h : r < 0) : rootF rs r = -1 := by unfold rootF; rw [if_pos h]
theorem rootF_big {rs : List PR} {r : Int} (h : (rs.length : Int) ≤ r) : rootF rs r = -1 := by
  unfold rootF; rw [if_neg (by omega), List.getElem?_eq_none (by omega)]
theorem rootF_at {rs : List PR} {r : Nat} {x : PR} (h : rs[r]? = some x) : rootF rs (r : Int) = x.root := by
  unfold rootF; rw [if_neg (by omega), Int.toNat_natCast, h]
/-- One kid more of a sequence: the facts so far, and whether all kids so far may succeed. -/
def seqS (s : Fc × Bool) (f : Fc) : Fc × Bool := (⟨s.1.nul && f.nul, s.1.eat || f.eat, s.1.fai || (f.fai && s.2)⟩, s.2 && f.ok)
def seqE (s : Fc × Bool) : Fc := ⟨s.1.nul, s.1.eat && s.2, s.1.fai⟩
def seqF (l : List Fc) : Fc := seqE (l.foldl seqS (⟨true, false, false⟩, true))
def choS (s f : Fc) : Fc := ⟨s.nul || (f.nul && s.fai), s.eat || (f.eat && s.fai), s.fai && f.fai⟩
def choF (l : List Fc) : Fc := l.foldl choS ⟨false, false, true⟩
def singF (op : Int) (f : Fc) : Fc :=
  if op = 5 then ⟨f.fai, f.eat, false⟩ else if op = 6 then ⟨f.nul && f.fai, f.eat, f.fai⟩ else if op = 7 then ⟨f.nul || f.fai, f.eat, false⟩ else if op = 8 then ⟨f.ok, false, f.fai⟩ else if op = 9 then ⟨f.fai, false, f.ok⟩ else fc0
def zeroS (n : PN) : Bool := decide (n.s0 = 0 ∧ n.s1 = 0 ∧ n.s2 = 0 ∧ n.s3 = 0)
/-- The table. -/
def nodeF (rs : List PR) (n : PN) (l : List Fc) : Fc :=
  if n.op = 0 then ⟨true, false, false⟩ else if n.op = 1 then ⟨false, !zeroS n, true⟩ else if n.op = 2 then atF l (rootF rs n.rule) else if n.op = 3 then seqF (n.kids.map (atF l)) else if n.op = 4 then choF (n.kids.map (atF l)) else singF n.op (atF l (n.kids.headD (-1)))
def stepF (rs : List PR) (ns : List PN) (l : List Fc) : List Fc := ns.map fun n => nodeF rs n l
theorem stepF_length (rs : List PR) (ns : List PN) (l : List Fc) : (stepF rs ns l).length = ns.length := by unfold stepF; rw [List.length_map]
theorem stepF_at {rs : List PR} {ns : List PN} {l : List Fc} {i : Nat} {n : PN} (h : ns[i]? = some n) : (stepF rs ns l)[i]? = some (nodeF rs n l) := by unfold stepF; rw [List.getElem?_map, h]; rfl
/- The program's way through a sequence and a choice. -/
theorem seq_dead : ∀ (l : List Fc) (s : Fc), s.nul = false → seqE (l.foldl seqS (s, false)) = ⟨false, false, s.fai⟩
  | [], s, h => by show seqE (s, false) = _; unfold seqE; simp [h]
  | f :: l, s, h => by
    show seqE (l.foldl seqS (seqS (s, false) f)) = _
    have e : seqS (s, false) f = (⟨false, s.eat || f.eat, s.fai⟩, false) := by unfold seqS; simp [h]
    rw [e, seq_dead l _ rfl]
theorem seq_stop {l : List Fc} {s f : Fc} (h : f.ok = false) : seqE ((f :: l).foldl seqS (s, true)) = ⟨false, false, s.fai || f.fai⟩ := by
  show seqE (l.foldl seqS (seqS (s, true) f)) = _
  have h1 : f.nul = false := by unfold Fc.ok at h; rw [Bool.or_eq_false_iff] at h; exact h.1
  have e : seqS (s, true) f = (⟨false, s.eat || f.eat, s.fai || f.fai⟩, false) := by unfold seqS; simp [h1, h]
  rw [e, seq_dead l _ rfl]
theorem seq_go {l : List Fc} {s f : Fc} (h : f.ok = true) : seqE ((f :: l).foldl seqS (s, true)) = seqE (l.foldl seqS (⟨s.nul && f.nul, s.eat || f.eat, s.fai || f.fai⟩, true)) := by
  show seqE (l.foldl seqS (seqS (s, true) f)) = _
  have e : seqS (s, true) f = (⟨s.nul && f.nul, s.eat || f.eat, s.fai || f.fai⟩, true) := by unfold seqS; simp [h]
  rw [e]
theorem seq_end (s : Fc) : seqE (([] : List Fc).foldl seqS (s, true)) = s := by show seqE (s, true) = _; unfold seqE; simp
theorem cho_dead : ∀ (l : List Fc) (s : Fc), s.fai = false → l.foldl choS s = s
  | [], s, h => rfl
  | f :: l, s, h => by
    show l.foldl choS (choS s f) = _
    have e : choS s f = s := by cases s; simp at h; subst h; unfold choS; simp
    rw [e]; exact cho_dead l s h
theorem cho_stop {l : List Fc} {a b : Bool} {f : Fc} (h : f.fai = false) : (f :: l).foldl choS ⟨a, b, true⟩ = ⟨a || f.nul, b || f.eat, false⟩ := by
  show l.foldl choS (choS _ f) = _
  have e : choS ⟨a, b, true⟩ f = ⟨a || f.nul, b || f.eat, false⟩ := by unfold choS; simp [h]
  rw [e]; exact cho_dead l _ rfl
theorem cho_go {l : List Fc} {a b : Bool} {f : Fc} (h : f.fai = true) : (f :: l).foldl choS ⟨a, b, true⟩ = l.foldl choS ⟨a || f.nul, b || f.eat, true⟩ := by
  show l.foldl choS (choS _ f) = _
  have e : choS ⟨a, b, true⟩ f = ⟨a || f.nul, b || f.eat, true⟩ := by unfold choS; simp [h]
  rw [e]
/- More facts lead to at least as many. -/
theorem seqS_mono {s t : Fc × Bool} {f g : Fc} (h : Fle s.1 t.1) (k : bleB s.2 t.2) (e : Fle f g) : Fle (seqS s f).1 (seqS t g).1 ∧ bleB (seqS s f).2 (seqS t g).2 :=
  ⟨⟨h.nul.and e.nul, h.eat.or e.eat, h.fai.or (e.fai.and k)⟩, k.and e.okm⟩
theorem seq_mono {p q : Int → Fc} : ∀ (ks : List Int), (∀ k, k ∈ ks → Fle (p k) (q k)) → ∀ (s t : Fc × Bool), Fle s.1 t.1 → bleB s.2 t.2 → Fle (seqE ((ks.map p).foldl seqS s)) (seqE ((ks.map q).foldl seqS t))
  | [], _, s, t, h, k => ⟨h.nul, h.eat.and k, h.fai⟩
  | x :: ks, hk, s, t, h, k => by
    have := seqS_mono h k (hk x (by simp))
    exact seq_mono ks (fun y hy => hk y (by simp [hy])) _ _ this.1 this.2
theorem cho_mono {p q : Int → Fc} : ∀ (ks : List Int), (∀ k, k ∈ ks → Fle (p k) (q k)) → ∀ (s t : Fc), Fle s t → Fle ((ks.map p).foldl choS s) ((ks.map q).foldl choS t)
  | [], _, s, t, h => h
  | x :: ks, hk, s, t, h => by
    have e := hk x (by simp)
    exact cho_mono ks (fun y hy => hk y (by simp [hy])) _ _ ⟨h.nul.or (e.nul.and h.fai), h.eat.or (e.eat.and h.fai), h.fai.and e.fai⟩
theorem sing_mono {op : Int} {f g : Fc} (h : Fle f g) : Fle (singF op f) (singF op g) := by
  unfold singF
  split
  · exact ⟨h.fai, h.eat, id⟩
  split
  · exact ⟨h.nul.and h.fai, h.eat, h.fai⟩
  split
  · exact ⟨h.nul.or h.fai, h.eat, id⟩
  split
  · exact ⟨h.okm, id, h.fai⟩
  split
  · exact ⟨h.fai, id, h.okm⟩
  · exact Fle.refl _
theorem node_mono {rs : List PR} {n : PN} {l m : List Fc} (h : ∀ i, Fle (atF l i) (atF m i)) : Fle (nodeF rs n l) (nodeF rs n m) := by
  unfold nodeF
  split
  · exact Fle.refl _
  split
  · exact Fle.refl _
  split
  · exact h _
  split
  · exact seq_mono n.kids (fun k _ => h k) _ _ (Fle.refl _) id
  split
  · exact cho_mono n.kids (fun k _ => h k) _ _ (Fle.refl _)
  · exact sing_mono (h _)
/-- A list of facts within another one. -/
def LeL : List Fc → List Fc → Prop
  | [], [] => True
  | f :: l, g :: m => Fle f g ∧ LeL l m
  | _, _ => False
theorem LeL.refl : ∀ l : List Fc, LeL l l
  | [] => trivial
  | f :: l => ⟨Fle.refl f, LeL.refl l⟩
theorem LeL.len : ∀ {l m : List Fc}, LeL l m → l.length = m.length
  | [], [], _ => rfl
  | f :: l, g :: m, h => by simp [LeL.len h.2]
  | [], _ :: _, h => h.elim
  | _ :: _, [], h => h.elim
theorem LeL.get : ∀ {l m : List Fc}, LeL l m → ∀ {i : Nat} {x y : Fc}, l[i]? = some x → m[i]? = some y → Fle x y
  | [], [], _, i, x, y, h, _ => by simp at h
  | f :: l, g :: m, hl, 0, x, y, h, k => by
    simp at h k; subst h; subst k; exact hl.1
  | f :: l, g :: m, hl, i + 1, x, y, h, k => LeL.get hl.2 (i := i) (by simpa using h) (by simpa using k)
  | [], _ :: _, h, _, _, _, _, _ => h.elim
  | _ :: _, [], h, _, _, _, _, _ => h.elim
theorem LeL.of : ∀ {l m : List Fc}, l.length = m.length → (∀ (i : Nat) (x y : Fc), l[i]? = some x → m[i]? = some y → Fle x y) → LeL l m
  | [], [], _, _ => trivial
  | f :: l, g :: m, hl, h => ⟨h 0 f g rfl rfl, LeL.of (by simpa using hl) fun i x y hx hy => h (i + 1) x y (by simpa using hx) (by simpa using hy)⟩
  | [], _ :: _, h, _ => by simp at h
  | _ :: _, [], h, _ => by simp at h
theorem LeL.at {l m : List Fc} (h : LeL l m) (i : Int) : Fle (atF l i) (atF m i) := by
  by_cases hi : i < 0
  · rw [atF_neg hi]; exact Fle.none _
  · obtain ⟨k, rfl⟩ : ∃ k : Nat, i = k := ⟨i.toNat, by omega⟩
    rcases Nat.lt_or_ge k l.length with hk | hk
    · obtain ⟨x, hx⟩ : ∃ x, l[k]? = some x := ⟨_, List.getElem?_eq_getElem hk⟩
      obtain ⟨y, hy⟩ : ∃ y, m[k]? = some y := ⟨_, List.getElem?_eq_getElem (by rw [← h.len]; exact hk)⟩
      rw [atF_some hx, atF_some hy]; exact h.get hx hy
    · rw [atF_big (by omega)]; exact Fle.none _
theorem LeL.trans {l m k : List Fc} (a : LeL l m) (b : LeL m k) : LeL l k := by
  refine LeL.of (a.len.trans b.len) fun i x y hx hy => ?_
  obtain ⟨z, hz⟩ : ∃ z, m[i]? = some z := ⟨_, List.getElem?_eq_getElem (by rw [← a.len]; exact (List.getElem?_eq_some_iff.1 hx).1)⟩
  exact (a.get hx hz).trans (b.get hz hy)
theorem step_mono {rs : List PR} {ns : List PN} {l m : List Fc} (h : LeL l m) : LeL (stepF rs ns l) (stepF rs ns m) := by
  refine LeL.of (by rw [stepF_length, stepF_length]) fun i x y hx hy => ?_
  obtain ⟨n, hn⟩ : ∃ n, ns[i]? = some n := ⟨_, List.getElem?_eq_getElem (by rw [← stepF_length rs ns l]; exact (List.getElem?_eq_some_iff.1 hx).1)⟩
  rw [stepF_at hn] at hx hy
  obtain rfl := Option.some.inj hx
  obtain rfl := Option.some.inj hy
  exact node_mono h.at
/- How many facts are true. -/
def cntF (f : Fc) : Nat := f.nul.toNat + f.eat.toNat + f.fai.toNat
def cntL : List Fc → Nat
  | [] => 0
  | f :: l => cntF f + cntL l
theorem cntF_le (f : Fc) : cntF f ≤ 3 := by cases f with | mk a b c => cases a <;> cases b <;> cases c <;> decide
theorem cntL_le : ∀ l : List Fc, cntL l ≤ 3 * l.length
  | [] => Nat.le_refl _
  | f :: l => by have := cntF_le f; have := cntL_le l; show cntF f + cntL l ≤ 3 * (l.length + 1); omega
theorem cntF_mono {f g : Fc} (h : Fle f g) : cntF f ≤ cntF g ∧ (f ≠ g → cntF f < cntF g) := by
  obtain ⟨h1, h2, h3⟩ := h
  cases f with | mk a b c => cases g with | mk x y z =>
  unfold bleB at h1 h2 h3
  cases a <;> cases b <;> cases c <;> cases x <;> cases y <;> cases z <;> simp_all [cntF]
theorem cntL_mono : ∀ {l m : List Fc}, LeL l m → cntL l ≤ cntL m ∧ (l ≠ m → cntL l < cntL m)
  | [], [], _ => ⟨Nat.le_refl _, fun h => absurd rfl h⟩
  | f :: l, g :: m, h => by
    have h1 := cntF_mono h.1
    have h2 := cntL_mono h.2
    refine ⟨by show cntF f + cntL l ≤ cntF g + cntL m; omega, fun hn => ?_⟩
    show cntF f + cntL l < cntF g + cntL m
    by_cases e : f = g
    · have : l ≠ m := fun e2 => hn (by rw [e, e2])
      have := h2.2 this; omega
    · have := h1.2 e; omega
  | [], _ :: _, h => h.elim
  | _ :: _, [], h => h.elim
theorem LeL.antisymm {l m : List Fc} (h : LeL l m) (k : LeL m l) : l = m := by
  by_cases e : l = m
  · exact e
  · have h1 := (cntL_mono h).2 e
    have h2 := (cntL_mono k).1
    omega
/- The least facts. -/
def itrF (rs : List PR) (ns : List PN) : Nat → List Fc
  | 0 => List.replicate ns.length fc0
  | k + 1 => stepF rs ns (itrF rs ns k)
theorem itrF_length (rs : List PR) (ns : List PN) : ∀ k, (itrF rs ns k).length = ns.length
  | 0 => by show (List.replicate _ _).length = _; rw [List.length_replicate]
  | k + 1 => stepF_length _ _ _
theorem zero_le {l : List Fc} {n : Nat} (h : l.length = n) : LeL (List.replicate n fc0) l := by
  refine LeL.of (by rw [List.length_replicate, h]) fun i x y hx hy => ?_
  rw [List.getElem?_replicate] at hx
  split at hx
  · obtain rfl := Option.some.inj hx; exact Fle.none _
  · cases hx
theorem itrF_up (rs : List PR) (ns : List PN) : ∀ k, LeL (itrF rs ns k) (itrF rs ns (k + 1))
  | 0 => zero_le (itrF_length rs ns 1)
  | k + 1 => step_mono (itrF_up rs ns k)
theorem itrF_stay {rs : List PR} {ns : List PN} {k : Nat} (h : itrF rs ns (k + 1) = itrF rs ns k) : ∀ j, itrF rs ns (k + j) = itrF rs ns k
  | 0 => rfl
  | j + 1 => by
    show stepF rs ns (itrF rs ns (k + j)) = _
    rw [itrF_stay h j]; exact h
theorem itrF_cnt {rs : List PR} {ns : List PN} : ∀ {k : Nat}, itrF rs ns (k + 1) ≠ itrF rs ns k → k + 1 ≤ cntL (itrF rs ns (k + 1))
  | 0, h => by have := (cntL_mono (itrF_up rs ns 0)).2 (Ne.symm h); omega
  | k + 1, h => by
    have h1 : itrF rs ns (k + 1) ≠ itrF rs ns k := fun e => h (congrArg (stepF rs ns) e)
    have h2 := itrF_cnt h1
    have := (cntL_mono (itrF_up rs ns (k + 1))).2 (Ne.symm h)
    omega
def lfp (rs : List PR) (ns : List PN) : List Fc := itrF rs ns (3 * ns.length)
theorem itrF_less {rs : List PR} {ns : List PN} {k : Nat} (h : itrF rs ns (k + 1) ≠ itrF rs ns k) : k < 3 * ns.length := by
  have h1 := itrF_cnt h
  have h2 := cntL_le (itrF rs ns (k + 1))
  rw [itrF_length] at h2
  omega
theorem lfp_length (rs : List PR) (ns : List PN) : (lfp rs ns).length = ns.length := itrF_length _ _ _
theorem lfp_fix (rs : List PR) (ns : List PN) : stepF rs ns (lfp rs ns) = lfp rs ns := by
  by_cases h : itrF rs ns (3 * ns.length + 1) = itrF rs ns (3 * ns.length)
  · exact h
  · exact absurd (itrF_less h) (Nat.lt_irrefl _)
theorem lfp_of {rs : List PR} {ns : List PN} {k : Nat} (h : itrF rs ns (k + 1) = itrF rs ns k) (hk : k ≤ 3 * ns.length) : itrF rs ns k = lfp rs ns := by
  have := itrF_stay h (3 * ns.length - k)
  rw [show k + (3 * ns.length - k) = 3 * ns.length by omega] at this
  exact this.symm
theorem itrF_least {rs : List PR} {ns : List PN} {l : List Fc} (hl : l.length = ns.length) (h : LeL (stepF rs ns l) l) : ∀ k, LeL (itrF rs ns k) l
  | 0 => zero_le hl
  | k + 1 => (step_mono (itrF_least hl h k)).trans h
theorem lfp_least {rs : List PR} {ns : List PN} {l : List Fc} (hl : l.length = ns.length) (h : LeL (stepF rs ns l) l) : LeL (lfp rs ns) l := itrF_least hl h _
theorem itrF_lfp (rs : List PR) (ns : List PN) (k : Nat) : LeL (itrF rs ns k) (lfp rs ns) := itrF_least (lfp_length rs ns) (by rw [lfp_fix]; exact LeL.refl _) k
/- The search: facts F, and the nodes that wait to be looked at. -/
/-- The table tells the facts of n by those of node i. -/
def Dep (rs : List PR) (n : PN) (i : Nat) : Prop := (n.op = 2 ∧ rootF rs n.rule = (i : Int)) ∨ (i : Int) ∈ n.kids
theorem node_same {rs : List PR} {n : PN} {l m : List Fc} {i : Nat} (h : ∀ k : Int, k ≠ (i : Int) → atF l k = atF m k) (hd : ¬ Dep rs n i) : nodeF rs n l = nodeF rs n m := by
  have hk : ∀ k, k ∈ n.kids → atF l k = atF m k := fun k hk => h k fun e => hd (.inr (e ▸ hk))
  have hm : n.kids.map (atF l) = n.kids.map (atF m) := List.map_congr_left hk
  unfold nodeF
  split
  · rfl
  split
  · rfl
  split
  · rename_i _ _ h2
    exact h _ fun e => hd (.inl ⟨h2, e⟩)
  split
  · rw [hm]
  split
  · rw [hm]
  · congr 1
    cases hkids : n.kids with
    | nil => show atF l (-1) = atF m (-1); rw [atF_neg (by omega), atF_neg (by omega)]
    | cons k ks => exact hk k (by rw [hkids]; simp)
structure FInv (rs : List PR) (ns : List PN) (F : List Fc) (held : Nat → Bool) : Prop where
  low : LeL F (lfp rs ns)
  up : LeL F (stepF rs ns F)
  done : ∀ i n, ns[i]? = some n → held i = false → F[i]? = some (nodeF rs n F)
theorem FInv.start (rs : List PR) (ns : List PN) {held : Nat → Bool} (h : ∀ i, i < ns.length → held i = true) : FInv rs ns (List.replicate ns.length fc0) held :=
  ⟨zero_le (lfp_length _ _), zero_le (stepF_length _ _ _), fun i n hn hh => by rw [h i (List.getElem?_eq_some_iff.1 hn).1] at hh; cases hh⟩
theorem FInv.len {rs : List PR} {ns : List PN} {F : List Fc} {held : Nat → Bool} (h : FInv rs ns F held) : F.length = ns.length := by rw [h.up.len, stepF_length]
theorem FInv.over {rs : List PR} {ns : List PN} {F : List Fc} {held : Nat → Bool} (h : FInv rs ns F held) (hh : ∀ i, i < ns.length → held i = false) : F = lfp rs ns := by
  refine h.low.antisymm (lfp_least h.len (LeL.of (by rw [stepF_length, h.len]) fun i x y hx hy => ?_))
  have hi : i < ns.length := by rw [← stepF_length rs ns F]; exact (List.getElem?_eq_some_iff.1 hx).1
  obtain ⟨n, hn⟩ : ∃ n, ns[i]? = some n := ⟨_, List.getElem?_eq_getElem hi⟩
  rw [stepF_at hn] at hx
  rw [h.done i n hn (hh i hi)] at hy
  obtain rfl := Option.some.inj hx
  obtain rfl := Option.some.inj hy
  exact Fle.refl _
/-- A node is looked at, and nothing is new. -/
theorem FInv.same {rs : List PR} {ns : List PN} {F : List Fc} {held : Nat → Bool} {i : Nat} {n : PN} (h : FInv rs ns F held) (hn : ns[i]? = some n) (he : nodeF rs n F = atF F i) : FInv rs ns F (fun j => held j && decide (j ≠ i)) := by
  refine ⟨h.low, h.up, fun j m hm hj => ?_⟩
  by_cases e : j = i
  · subst e
    rw [hn] at hm
    obtain rfl := Option.some.inj hm
    obtain ⟨x, hx⟩ : ∃ x, F[j]? = some x := ⟨_, List.getElem?_eq_getElem (by rw [h.len]; exact (List.getElem?_eq_some_iff.1 hn).1)⟩
    rw [he, atF_some hx]; exact hx
  · refine h.done j m hm ?_
    rw [decide_eq_true e, Bool.and_true] at hj; exact hj
theorem atF_set_ne {l : List Fc} {i : Nat} {x : Fc} {k : Int} (h : k ≠ (i : Int)) : atF (l.set i x) k = atF l k := by
  by_cases hk : k < 0
  · rw [atF_neg hk, atF_neg hk]
  · obtain ⟨j, rfl⟩ : ∃ j : Nat, k = j := ⟨k.toNat, by omega⟩
    rw [atF_nat, atF_nat, List.getElem?_set_ne (by omega)]
/-- The facts of a node have changed: those that they tell wait, all of them at the end. -/
theorem FInv.new {rs : List PR} {ns : List PN} {F : List Fc} {held held' : Nat → Bool} {i : Nat} {n : PN} (h : FInv rs ns F held) (hn : ns[i]? = some n)
    (hh : ∀ j m, ns[j]? = some m → held' j = false → (j = i ∨ held j = false) ∧ ¬ Dep rs m i) : FInv rs ns (F.set i (nodeF rs n F)) held' := by
  have hi : i < ns.length := (List.getElem?_eq_some_iff.1 hn).1
  have hF : i < F.length := by rw [h.len]; exact hi
  have hup : LeL F (F.set i (nodeF rs n F)) := by
    refine LeL.of (by rw [List.length_set]) fun j x y hx hy => ?_
    by_cases e : i = j
    · subst e
      rw [List.getElem?_set_self hF] at hy
      obtain rfl := Option.some.inj hy
      exact h.up.get hx (stepF_at hn)
    · rw [List.getElem?_set_ne e, hx] at hy
      obtain rfl := Option.some.inj hy
      exact Fle.refl _
  have hst := step_mono (rs := rs) (ns := ns) hup
  refine ⟨LeL.of (by rw [List.length_set, h.len, lfp_length]) fun j x y hx hy => ?_, LeL.of (by rw [List.length_set, h.len, stepF_length]) fun j x y hx hy => ?_, fun j m hm hj => ?_⟩
  · by_cases e : i = j
    · subst e
      rw [List.getElem?_set_self hF] at hx
      obtain rfl := Option.some.inj hx
      have := step_mono (rs := rs) (ns := ns) h.low
      rw [lfp_fix] at this
      exact this.get (stepF_at hn) hy
    · rw [List.getElem?_set_ne e] at hx
      exact h.low.get hx hy
  · by_cases e : i = j
    · subst e
      rw [List.getElem?_set_self hF] at hx
      obtain rfl := Option.some.inj hx
      exact hst.get (stepF_at hn) hy
    · rw [List.getElem?_set_ne e] at hx
      exact (h.up.trans hst).get hx hy
  · obtain ⟨h1, h2⟩ := hh j m hm hj
    have hsame : nodeF rs m F = nodeF rs m (F.set i (nodeF rs n F)) := node_same (i := i) (fun k hk => (atF_set_ne hk).symm) h2
    rw [← hsame]
    by_cases e : i = j
    · subst e
      rw [hn] at hm
      obtain rfl := Option.some.inj hm
      exact List.getElem?_set_self hF
    · rw [List.getElem?_set_ne e]
      rcases h1 with h1 | h1
      · exact absurd h1.symm e
      · exact h.done j m hm h1
theorem cnt_new {rs : List PR} {ns : List PN} {F : List Fc} {held : Nat → Bool} {i : Nat} {n : PN} (h : FInv rs ns F held) (hn : ns[i]? = some n) (hne : nodeF rs n F ≠ atF F i) : cntL F < cntL (F.set i (nodeF rs n F)) := by
  have hF : i < F.length := by rw [h.len]; exact (List.getElem?_eq_some_iff.1 hn).1
  have hup : LeL F (F.set i (nodeF rs n F)) := by
    refine LeL.of (by rw [List.length_set]) fun j x y hx hy => ?_
    by_cases e : i = j
    · subst e
      rw [List.getElem?_set_self hF] at hy
      obtain rfl := Option.some.inj hy
      exact h.up.get hx (stepF_at hn)
    · rw [List.getElem?_set_ne e, hx] at hy
      obtain rfl := Option.some.inj hy
      exact Fle.refl _
  refine (cntL_mono hup).2 fun e => hne ?_
  have : (F.set i (nodeF rs n F))[i]? = some (nodeF rs n F) := List.getElem?_set_self hF
  rw [← e] at this
  rw [atF_some this]
end Go.Proofs.Ytocklhehfdilmaa
