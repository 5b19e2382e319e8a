/- Mathematics: the positions that a file names lie within the text. -/
import Derived.Test.YtmjnbapkpcfgcaaGreatDoorPkZ
import Derived.Test.YtmjnbapkpcfgcaaGreatDoorPkK
namespace Go.Proofs.YtmjnbapkpcfgcaaGreatDoor
section
def TkB (B : Nat) (ts : List Tok) : Prop := ∀ t ∈ ts, t.at_ ≤ B
def ClB (B : Nat) (f : MF) : Prop := ∀ c ∈ f.calls, c.2 ≤ B
def PoB (B : Nat) (o : PO) : Prop := match o with
  | .ok ts f => TkB B ts ∧ ClB B f
  | .bad _ _ => True
def Bdd (B : Nat) (F : List Tok → MF → PO) : Prop := ∀ ts f, TkB B ts → ClB B f → PoB B (F ts f)
theorem TkB.tail {B : Nat} {ts : List Tok} (h : TkB B ts) : TkB B ts.tail := fun t ht => h t (List.mem_of_mem_tail ht)
theorem ClB.add {B : Nat} {f : MF} (h : ClB B f) (n : PN) : ClB B (addN f n) := h
theorem ClB.join {B : Nat} {f : MF} (h : ClB B f) (op : Int) (ks : List Int) : ClB B (joinN f op ks) := by
  unfold joinN
  split
  · exact h
  · exact h
  · exact h
theorem ClB.litF {B : Nat} : ∀ (l : List Nat) (f : MF) (ks : List Int), ClB B f → ClB B (litF f l ks).1
  | [], _, _, h => h
  | _ :: r, _, _, h => ClB.litF r _ _ (ClB.add h _)
theorem ClB.lit {B : Nat} {f : MF} (h : ClB B f) (t : List Nat) : ClB B (litN f t) := (ClB.litF t f [] h).join _ _
theorem ClB.call {B : Nat} {f : MF} (h : ClB B f) {t : Tok} (ht : t.at_ ≤ B) : ClB B (callF f t) := fun c hc => by
  rcases List.mem_append.1 hc with hc | hc
  · exact h c hc
  · obtain rfl := List.mem_singleton.1 hc
    exact ht
theorem PoB.acc {B : Nat} (st : Bool) {ts : List Tok} {f : MF} (h : TkB B ts) (k : ClB B f) : PoB B (acc st ts f) := by
  unfold Go.Proofs.YtmjnbapkpcfgcaaGreatDoor.acc
  split
  · trivial
  · exact ⟨h, k⟩
theorem PoB.bind {B : Nat} {o : PO} {k : List Tok → MF → PO} (h : PoB B o) (hk : ∀ a g, TkB B a → ClB B g → PoB B (k a g)) : PoB B (o.bind k) := by
  cases o with
  | ok a g => exact hk a g h.1 h.2
  | bad a d => trivial
theorem Bdd.clos {B : Nat} (st : Bool) : Bdd B (closL st) := by
  intro ts f h k
  unfold closL
  split
  · exact PoB.acc _ h.tail k
  · trivial
theorem Bdd.prim {B : Nat} {st : Bool} {room : Nat} {rec : List Tok → MF → PO} (h : Bdd B rec) : Bdd B (primL st room rec) := by
  intro ts f ht hf
  cases ts with
  | nil => trivial
  | cons t tl =>
    have ht' : TkB B tl := ht.tail
    unfold primL
    dsimp only
    split
    · split
      · trivial
      · exact PoB.acc _ ht' (hf.call (ht t (List.mem_cons_self ..)))
    · split
      · split
        · trivial
        · refine (PoB.acc _ ht' hf).bind fun a b ha hb => ?_
          refine (h a b ha hb).bind fun c e hc he => Bdd.clos st c e hc he
      · split
        · exact PoB.acc _ ht' (hf.lit _)
        · split
          · exact PoB.acc _ ht' (hf.add _)
          · split
            · exact PoB.acc _ ht' (hf.add _)
            · trivial
theorem Bdd.sufK {B : Nat} (st : Bool) : Bdd B (sufK st) := by
  intro ts f h k
  unfold Go.Proofs.YtmjnbapkpcfgcaaGreatDoor.sufK
  split
  · exact PoB.acc _ h.tail (k.add _)
  · exact ⟨h, k⟩
theorem Bdd.suf {B : Nat} {st : Bool} {room : Nat} {rec : List Tok → MF → PO} (h : Bdd B rec) : Bdd B (sufL st room rec) := by
  intro ts f ht hf
  unfold sufL
  exact (Bdd.prim h ts f ht hf).bind fun a g ha hg => Bdd.sufK st a g ha hg
theorem Bdd.pre {B : Nat} {st : Bool} {room : Nat} {rec : List Tok → MF → PO} (h : Bdd B rec) : Bdd B (preL st room rec) := by
  intro ts f ht hf
  unfold preL
  split
  · refine (PoB.acc _ ht.tail hf).bind fun a b ha hb => ?_
    exact (Bdd.suf h a b ha hb).bind fun c e hc he => ⟨hc, he.add _⟩
  · exact Bdd.suf h ts f ht hf
theorem Bdd.parts {B : Nat} {top : Bool} {pre : List Tok → MF → PO} (h : Bdd B pre) : ∀ (n : Nat) (ts : List Tok) (f : MF) (ks : List Int), TkB B ts → ClB B f → PoB B (partsL top pre n ts f ks)
  | 0, _, _, _, _, _ => trivial
  | n + 1, ts, f, ks, ht, hf => by
    cases hb : begB top ts
    · rw [partsL_stop hb]
      exact ⟨ht, hf.join _ _⟩
    · rw [partsL_go hb]
      exact (h ts f ht hf).bind fun a g ha hg => Bdd.parts h n a g _ ha hg
theorem Bdd.alts {B : Nat} {st : Bool} {sq : List Tok → MF → PO} (h : Bdd B sq) : ∀ (n : Nat) (ts : List Tok) (f : MF) (ks : List Int), TkB B ts → ClB B f → PoB B (altsL st sq n ts f ks)
  | 0, _, _, _, _, _ => trivial
  | n + 1, ts, f, ks, ht, hf => by
    rw [altsL_eq]
    refine (h ts f ht hf).bind fun a g ha hg => ?_
    split
    · exact (PoB.acc _ ha.tail hg).bind fun b k hb hk => Bdd.alts h n b k _ hb hk
    · exact ⟨ha, hg.join _ _⟩
theorem Bdd.none {B : Nat} : Bdd B fun a _ => .bad a false := fun _ _ _ _ => True.intro
theorem Bdd.expr {B : Nat} (st : Bool) : ∀ (r : Nat) (top : Bool), Bdd B (exprL st r top)
  | 0, _ => fun ts f ht hf => Bdd.alts (fun a g ha hg => Bdd.parts (Bdd.pre Bdd.none) _ a g [] ha hg) _ ts f [] ht hf
  | r + 1, _ => fun ts f ht hf => Bdd.alts (fun a g ha hg => Bdd.parts (Bdd.pre (Bdd.expr st r false)) _ a g [] ha hg) _ ts f [] ht hf
theorem Bdd.defL {B : Nat} {st : Bool} {F : List Tok → MF → PO} (h : Bdd B F) : Bdd B (defL st F) := by
  intro ts f ht hf
  unfold Go.Proofs.YtmjnbapkpcfgcaaGreatDoor.defL
  split
  · refine (PoB.acc _ ht.tail hf).bind fun a g ha hg => ?_
    split
    · exact (PoB.acc _ ha.tail hg).bind fun b k hb hk => h b k hb hk
    · trivial
  · trivial
theorem defsL_bd {B : Nat} {st : Bool} {F : List Tok → MF → PO} (h : Bdd B F) : ∀ (n : Nat) (ts : List Tok) (f g : MF) (rs rs' : List (List Nat × Nat × Int)), TkB B ts → ClB B f → (∀ r ∈ rs, r.2.1 ≤ B) → defsL st F n ts f rs = .ok rs' g → (∀ r ∈ rs', r.2.1 ≤ B) ∧ ClB B g
  | 0, _, _, _, _, _, _, _, _, e => by cases e
  | n + 1, ts, f, g, rs, rs', ht, hf, hr, e => by
    unfold defsL at e
    have hd := Bdd.defL (st := st) h ts f ht hf
    cases ho : defL st F ts f with
    | bad a dp => rw [ho] at e; cases e
    | ok a k =>
      rw [ho] at e hd
      have hp : pos ts ≤ B := by
        cases ts with
        | nil => exact Nat.zero_le _
        | cons t tl => exact ht t (List.mem_cons_self ..)
      have hr' : ∀ r ∈ rs ++ [(txt ts, pos ts, lastI k)], r.2.1 ≤ B := fun r hm => by
        rcases List.mem_append.1 hm with hm | hm
        · exact hr r hm
        · obtain rfl := List.mem_singleton.1 hm
          exact hp
      dsimp only at e
      split at e
      · cases e
        exact ⟨hr', hd.2⟩
      · exact defsL_bd h n a k g _ _ hd.1 hd.2 hr' e
/-- The positions of a file lie within its text. -/
theorem rfile_at {l : List Nat} {rs : List (List Nat × Nat × Int)} {f : MF} (h : rfileL l = .ok rs f) : (∀ r ∈ rs, r.2.1 ≤ l.length) ∧ ∀ c ∈ f.calls, c.2 ≤ l.length := by
  obtain ⟨ht, -⟩ := file_toks h
  exact defsL_bd (Bdd.expr true 200 true) _ _ _ _ _ _ (toks_at _ 0 _ (Nat.le_refl _) (Nat.zero_le _) ht) (fun c hc => by cases hc) (fun r hr => by cases hr) h
end
end Go.Proofs.YtmjnbapkpcfgcaaGreatDoor
