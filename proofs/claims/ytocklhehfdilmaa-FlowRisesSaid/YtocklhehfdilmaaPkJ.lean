/- flow: newQueue; usersOf. flow: usersOf. -/
import Derived.Test.YtocklhehfdilmaaPkFlowM
import Derived.Test.YtocklhehfdilmaaPkFlowRef
namespace Go.Proofs.Ytocklhehfdilmaa
open Go.RowKit
def NewQ (n : Nat) (w : World) (e : Ending) (w' : World) : Prop := ∃ (m : Nat → Bool) (l : List Int), e = .returned (.pointer (some ⟨w.heap.size + 1, 0, none⟩)) ∧ Qs w.heap.size n (w.heap.size + 1) w.heap.size m l w' ∧ (∀ j, j < n → m j = true) ∧ Below w.heap.size w w'
set_option maxHeartbeats 4000000 in
set_option maxRecDepth 100000 in
theorem fnew_any (n : Nat) (w : World) (hn : n ≤ 100000) : Calls Try.prog 23 #[.int .i64 (n : Int)] w (NewQ n w) := by
  have hmk := fun w => run_make_row' (P := Try.prog) 67 4 (.bool false) 1 Try.underlying67 Try.infoBool rfl .i64 .i64 n (by omega) (by omega) w
  go_enter Try.func23, Try.ntmps23
  go_wp2
  go_loopw [10] (fun c wr => ∃ (k : Nat) (m : Nat → Bool) (l : List Int), k ≤ n ∧ c = .int .i64 (k : Int) ∧ Qs w.heap.size n (w.heap.size + 1) w.heap.size m l wr ∧ (∀ j, j < k → m j = true) ∧ Below w.heap.size w wr) (fun c _ => n - (intOf c).toNat)
  case atStart =>
    refine ⟨0, fun _ => false, [], Nat.zero_le _, rfl, ⟨⟨none, 0, Bl.new' (by simp), World.ownsRow_nil _ _ _ _⟩, ⟨madeCells #[.bool false] n, Bl.past (Bl.new w _ _), fun j hj => ?_⟩, Nat.le_succ _, Nat.le_refl _, QI.nil n⟩, fun j hj => absurd hj (Nat.not_lt_zero _), two_new _ _ _⟩
    simp [madeCells, hj, Nat.mod_one]
  case round =>
    obtain ⟨k, m, l, hk, rfl, hq, hm, hb⟩ := hrel
    have HQ := Lib.hid hq
    have HM := Lib.hid hm
    have HB := Lib.hid hb
    clear hq hm hb
    by_cases hlt : k < n
    · have k1 : (k : Int) < (n : Int) := by omega
      go_wp2_with (go_at_call 24; (with_reducible refine (fadd_any _ n _ _ k m l _ HQ.out hlt hn).mono ?_); rintro e w2 ⟨⟨v2, rfl⟩, l2, hq2, hk2⟩; have HQ2 := Lib.hid hq2; have HB2 := Lib.hid (HB.out.trans (hk2.below (Nat.le_succ _) (Nat.le_refl _) HB.out.size)); clear hq2 hk2)
      go_roundw
      case rel => exact ⟨k + 1, ins m k, l2, by omega, by go_num, HQ2.out, fun j hj => by by_cases e : j = k; subst e; exact ins_here m j; exact ins_keep (HM.out j (by omega)), HB2.out⟩
      case measure => simp [intOf]; omega
    · obtain rfl : k = n := by omega
      have k1 : ¬ (k : Int) < (k : Int) := by omega
      go_wp2
      go_ret
      exact ⟨m, l, rfl, HQ.out, HM.out, HB.out⟩
/- Who is told by whom. -/
/-- Rows of users, as they grow: V i is the slice of node i, with the users U i. -/
structure URows (base n UB : Nat) (U : Nat → List Int) (V : Nat → Value) (W : World) : Prop where
  bl : ∃ cs, Bl W UB 51 cs ∧ ∀ i, i < n → cs[i]? = some (V i)
  row : ∀ i, i < n → W.ownsRow base 3 1 (V i) (U i).length (intsV (U i))
  apart : ∀ i j, i < n → j < n → i ≠ j → (V i).ownBlock = none ∨ (V i).ownBlock ≠ (V j).ownBlock
section
variable {base n UB : Nat} {U : Nat → List Int} {V : Nat → Value} {W W' : World}
theorem URows.below (h : URows base n UB U V W) (hb : Below W.heap.size W W') : URows base n UB U V W' := by
  obtain ⟨⟨cs, h1, h2⟩, h3, h4⟩ := h
  exact ⟨⟨cs, h1.below hb, h2⟩, fun i hi => ownsRow_grown (h3 i hi) hb, h4⟩
theorem URows.lt (h : URows base n UB U V W) : UB < W.heap.size := by obtain ⟨⟨cs, h1, -⟩, -⟩ := h; exact h1.lt
theorem URows.cell {i : Nat} (h : URows base n UB U V W) (hi : i < n) : W.cell? ⟨UB, i, none⟩ = some (V i) := by obtain ⟨⟨cs, h1, h2⟩, -⟩ := h; exact h1.cell (h2 i hi)
theorem URows.free (h : URows base n UB U V W) (o : Nat) : W.frozen? ⟨UB, o, none⟩ = false := by obtain ⟨⟨cs, h1, h2⟩, -⟩ := h; exact h1.free o
def updU {α : Type} (U : Nat → α) (k : Nat) (x : α) (j : Nat) : α := if j = k then x else U j
/-- One user more: the row of node k has grown, and its slice is stored. -/
theorem URows.add {k : Nat} {x : Int} {v5 : Value} (h : URows base n UB U V W) (hk : k < n) (ho : W'.ownsRow base 3 1 v5 ((U k).length + 1) (intsV (U k) ++ [.int .i64 x])) (hg : W.grownBy W' (V k).ownBlock)
    (hv : v5.ownBlock = (V k).ownBlock ∨ v5.ownBlock = some W.heap.size) : URows base n UB (updU U k (U k ++ [x])) (updU V k v5) (W'.setCell ⟨UB, k, none⟩ v5) := by
  obtain ⟨⟨cs, h1, h2⟩, h3, h4⟩ := h
  have h1' : Bl W' UB 51 cs := h1.grown hg (fun g e => by obtain ⟨c, fz, hc⟩ := Lib.ownsRow_kind (h3 k hk) g e; exact ⟨c, 3, fz, hc, by decide⟩)
  have hlt : ∀ i, i < n → ∀ g, (V i).ownBlock = some g → g < W.heap.size := fun i hi g e => ((h3 i hi).lt g e).2
  refine ⟨⟨_, h1'.set' v5, fun i hi => ?_⟩, fun i hi => ?_, fun i j hi hj hne => ?_⟩
  · unfold updU
    by_cases e : i = k
    · subst e
      rw [if_pos rfl]
      exact Array.getElem?_setIfInBounds_self_of_lt (Array.getElem?_eq_some_iff.1 (h2 i hi)).1
    · rw [if_neg e, Array.getElem?_setIfInBounds_ne (by omega)]
      exact h2 i hi
  · unfold updU
    by_cases e : i = k
    · subst e
      rw [if_pos rfl, if_pos rfl, List.length_append, intsV_append]
      exact ownsRow_setCell_other ho (a := ⟨UB, i, none⟩) (row_ne ho ⟨_, _, h1'⟩ (by decide)) _
    · rw [if_neg e, if_neg e]
      have hr : W'.ownsRow base 3 1 (V i) (U i).length (intsV (U i)) := (h3 i hi).kept hg (h4 i k hi hk e)
      exact ownsRow_setCell_other hr (a := ⟨UB, k, none⟩) (row_ne hr ⟨_, _, h1'⟩ (by decide)) _
  · unfold updU
    by_cases e : i = k
    · subst e
      rw [if_pos rfl, if_neg (by omega)]
      rcases hv with hv | hv
      · rw [hv]; exact h4 i j hi hj hne
      · right
        rw [hv]
        intro e2
        have := hlt j hj _ e2.symm
        omega
    · rw [if_neg e]
      by_cases e2 : j = k
      · subst e2
        rw [if_pos rfl]
        rcases hv with hv | hv
        · rw [hv]; exact h4 i j hi hj hne
        · cases hvi : (V i).ownBlock with
          | none => left; rfl
          | some g =>
            right
            rw [hv]
            intro e3
            have := hlt i hi g hvi
            injection e3 with e3
            omega
      · rw [if_neg e2]; exact h4 i j hi hj hne
end
end Go.Proofs.Ytocklhehfdilmaa
namespace Go.Proofs.Ytocklhehfdilmaa
open Go.RowKit
theorem fuse_end {base n UB k : Nat} {x : Int} {U : Nat → List Int} {V : Nat → Value} {v v5 : Value} {w w1 w5 : World} (h : URows base n UB U V w) (hb : Below w.heap.size w w1) (hk : k < n) (hv : V k = v)
    (ho : w5.ownsRow base 3 1 v5 ((U k).length + 1) (intsV (U k) ++ [.int .i64 x])) (hg : w1.grownBy w5 v.ownBlock) (ht : v5.ownBlock = v.ownBlock ∨ v5.ownBlock = some w1.heap.size) :
    ∃ V', URows base n UB (updU U k (U k ++ [x])) V' (w5.setCell ⟨UB, k, none⟩ v5) ∧ Kp base UB UB 3 w (w5.setCell ⟨UB, k, none⟩ v5) := by
  have h1 := h.below hb
  rw [← hv] at hg ht
  obtain ⟨cs, hB, -⟩ := id h1.bl
  have hkind : ∀ g, (V k).ownBlock = some g → base ≤ g ∧ ∃ c fz, w1.heap[g]? = some (.cells c 3 fz) := fun g e => by
    obtain ⟨c, fz, hc⟩ := Lib.ownsRow_kind (h1.row k hk) g e
    exact ⟨((h1.row k hk).lt g e).1, c, fz, hc⟩
  have hB5 := hB.grown hg (fun g e => by obtain ⟨-, c, fz, hc⟩ := hkind g e; exact ⟨c, 3, fz, hc, by decide⟩)
  exact ⟨_, h1.add hk ho hg ht, ((Kp.of_below hb).trans (Kp.grown hg hkind)).trans (Kp.set hB5 (.inl rfl) _)⟩
set_option maxHeartbeats 8000000 in
set_option maxRecDepth 100000 in
theorem fuse_any (base n UB VB k : Nat) (x : Int) (U : Nat → List Int) (V : Nat → Value) (w : World) (hR : URows base n UB U V w) (hV : Bl w VB 54 #[.slice (some ⟨UB, 0, none⟩) n n]) (hk : k < n) (hl : (U k).length ≤ 900000) (hbs : base ≤ w.heap.size) :
    Calls Try.prog 32 #[.int .i64 (k : Int), .int .i64 x, .pointer (some ⟨VB, 0, none⟩)] w fun e w' => (∃ v, e = .returned v) ∧ ∃ V', URows base n UB (updU U k (U k ++ [x])) V' w' ∧ Kp base UB UB 3 w w' := by
  obtain ⟨ii, hii, hz0, hz1, hz2⟩ := info_parts infoInt
  have hrow := hR.row k hk
  obtain ⟨va, vc, hv⟩ := own_slice' hrow
  have c0 : w.cell? ⟨VB, 0, none⟩ = some (.slice (some ⟨UB, 0, none⟩) n n) := hV.cell (o := 0) rfl
  have cu := hR.cell hk
  have fu := hR.free k
  have lu := hR.lt
  have lv := hV.lt
  rw [hv] at hrow cu
  have k0 : (0 : Int) ≤ (k : Int) := by omega
  have k1 : (k : Int) < (n : Int) := by omega
  obtain ⟨cs, hUB, -⟩ := id hR.bl
  have HUB := Lib.hid hUB
  have HO := Lib.hid hrow
  have HR := Lib.hid hR
  have HVV := Lib.hid hv
  have HV := Lib.hid hV
  clear hR hV hrow hv hUB
  go_enter Try.func32, Try.ntmps32
  go_wp2
  go_region_law (refine step_append_own (by rfl) _ _ 51 (by rfl) base 3 ii _ 1 8 Try.underlying51 hii hz0 hz1 hz2 (by rfl) (by decide) (.slice va (U k).length vc) (U k).length _ (by simp [Act.eval]) (by refine ownsRow_grown HO.out ?_; repeat (first | exact Below.refl _ _ | refine Below.drew ?_ | refine below_alloc' ?_ rfl _)) _ 1 1 [.int .i64 x] (by simp [Act.eval]; rfl) (by rfl) (by refine Bl.news (t := 3) ?_; repeat (first | (refine Bl.new' ?_; simp; done) | refine Bl.drew ?_ | refine Bl.past ?_)) (by simp [Value.oneCell']) (by unfold maxLen; omega) (by omega) (by simp; omega) ?_; intro a5 c5 w5 hown5 hgrow5 hat5; have hbw5 : Hid (Below w.heap.size w (w.alloc (.cells #[.int .i64 x] 3)).drew) := Lib.hid (Below.drew (below_alloc' (Below.refl _ _) rfl _)); have hv5 := (HV.out.below hbw5.out).grown hgrow5 (fun g e => by obtain ⟨c, fz, hc⟩ := Lib.ownsRow_kind (ownsRow_grown HO.out hbw5.out) g e; exact ⟨c, 3, fz, hc, by decide⟩); have hu5 := (HUB.out.below hbw5.out).grown hgrow5 (fun g e => by obtain ⟨c, fz, hc⟩ := Lib.ownsRow_kind (ownsRow_grown HO.out hbw5.out) g e; exact ⟨c, 3, fz, hc, by decide⟩); have x0 : w5.cell? ⟨VB, 0, none⟩ = some (.slice (some ⟨UB, 0, none⟩) n n) := hv5.cell (o := 0) rfl; have xu := World.cell?_of_block (a := ⟨UB, k, none⟩) (show w5.heap[UB]? = w.heap[UB]? by unfold Bl at hu5; rw [hu5]; exact HUB.out.symm); rw [cu] at xu; have xf := hu5.free; have HO5 := Lib.hid hown5; have HG5 := Lib.hid hgrow5; have HT5 := Lib.hid hat5; clear hown5 hgrow5 hat5 hv5 hu5)
  all_goals
    go_wp2
    go_end0
    exact ⟨⟨_, rfl⟩, fuse_end HR.out hbw5.out hk HVV.out HO5.out HG5.out HT5.out⟩
/-- What the users of the nodes before k say. -/
structure UInv (rs : List PR) (ns : List PN) (U : Nat → List Int) (k : Nat) (t : Nat) (c : Nat) : Prop where
  all : ∀ (j i : Nat) (m : PN), j < k → ns[j]? = some m → Dep rs m i → i < ns.length → (j : Int) ∈ U i
  now : ∀ (m : PN), ns[k]? = some m → 0 < t → (m.op = 2 → ∀ i : Nat, rootF rs m.rule = (i : Int) → i < ns.length → (k : Int) ∈ U i) ∧ ∀ (p i : Nat), p + 1 < t → m.kids[p]? = some (i : Int) → i < ns.length → (k : Int) ∈ U i
  lt : ∀ i x, x ∈ U i → ∃ j : Nat, x = (j : Int) ∧ j < ns.length
  len : ∀ i, (U i).length ≤ c
theorem updU_mem {U : Nat → List Int} {k i : Nat} {x y : Int} (h : y ∈ U i) : y ∈ updU U k (U k ++ [x]) i := by
  unfold updU
  by_cases e : i = k
  · subst e; rw [if_pos rfl]; exact List.mem_append_left _ h
  · rw [if_neg e]; exact h
theorem updU_new (U : Nat → List Int) (k : Nat) (x : Int) : x ∈ updU U k (U k ++ [x]) k := by unfold updU; rw [if_pos rfl]; simp
theorem updU_inv {U : Nat → List Int} {k i : Nat} {x y : Int} (h : y ∈ updU U k (U k ++ [x]) i) : y ∈ U i ∨ y = x := by
  unfold updU at h
  by_cases e : i = k
  · subst e; rw [if_pos rfl] at h; simpa using h
  · rw [if_neg e] at h; exact .inl h
theorem UInv.start (rs : List PR) (ns : List PN) : UInv rs ns (fun _ => []) 0 0 0 := ⟨fun j i m h => absurd h (Nat.not_lt_zero _), fun m _ h => absurd h (Nat.lt_irrefl _), fun i x h => by simp at h, fun i => Nat.le_refl _⟩
/-- One user more, whoever it is told by. -/
theorem UInv.more {rs : List PR} {ns : List PN} {U : Nat → List Int} {k t c i : Nat} (h : UInv rs ns U k t c) (hk : k < ns.length) : UInv rs ns (updU U i (U i ++ [(k : Int)])) k t (c + 1) := by
  refine ⟨fun j p m a b d e => updU_mem (h.all j p m a b d e), fun m hm ht => ⟨fun a p b d => updU_mem ((h.now m hm ht).1 a p b d), fun p q a b d => updU_mem ((h.now m hm ht).2 p q a b d)⟩, fun p x hx => ?_, fun p => ?_⟩
  · rcases updU_inv hx with hx | hx
    · exact h.lt p x hx
    · exact ⟨k, hx, hk⟩
  · unfold updU
    split
    · rw [List.length_append]; have := h.len i; simp; omega
    · have := h.len p; omega
theorem UInv.grow {rs : List PR} {ns : List PN} {U : Nat → List Int} {k t c c' : Nat} (h : UInv rs ns U k t c) (hc : c ≤ c') : UInv rs ns U k t c' := ⟨h.all, h.now, h.lt, fun i => Nat.le_trans (h.len i) hc⟩
/-- A call's rule is told. -/
theorem UInv.call {rs : List PR} {ns : List PN} {U : Nat → List Int} {k c i : Nat} {m : PN} (h : UInv rs ns U k 0 c) (hm : ns[k]? = some m) (hr : rootF rs m.rule = (i : Int)) : UInv rs ns (updU U i (U i ++ [(k : Int)])) k 1 (c + 1) := by
  have h1 := h.more (i := i) (List.getElem?_eq_some_iff.1 hm).1
  refine ⟨h1.all, fun m' hm' _ => ?_, h1.lt, h1.len⟩
  rw [hm] at hm'
  obtain rfl := Option.some.inj hm'
  refine ⟨fun _ p hp _ => ?_, fun p q hp => absurd hp (by omega)⟩
  have : i = p := by rw [hr] at hp; omega
  subst this
  exact updU_new U i k
theorem UInv.nocall {rs : List PR} {ns : List PN} {U : Nat → List Int} {k c : Nat} {m : PN} (h : UInv rs ns U k 0 c) (hm : ns[k]? = some m) (h2 : m.op ≠ 2) : UInv rs ns U k 1 c := by
  refine ⟨h.all, fun m' hm' _ => ?_, h.lt, h.len⟩
  rw [hm] at hm'
  obtain rfl := Option.some.inj hm'
  exact ⟨fun e => absurd e h2, fun p q hp => absurd hp (by omega)⟩
theorem UInv.kid {rs : List PR} {ns : List PN} {U : Nat → List Int} {k t c i : Nat} {m : PN} (h : UInv rs ns U k (t + 1) c) (hm : ns[k]? = some m) (hi : m.kids[t]? = some (i : Int)) : UInv rs ns (updU U i (U i ++ [(k : Int)])) k (t + 2) (c + 1) := by
  have h1 := h.more (i := i) (List.getElem?_eq_some_iff.1 hm).1
  refine ⟨h1.all, fun m' hm' _ => ?_, h1.lt, h1.len⟩
  obtain ⟨g1, g2⟩ := h1.now m' hm' (by omega)
  refine ⟨g1, fun p q hp hq hl => ?_⟩
  by_cases e : p = t
  · subst e
    rw [hm] at hm'
    obtain rfl := Option.some.inj hm'
    rw [hi] at hq
    have : i = q := by injection hq with hq; omega
    subst this
    exact updU_new U i k
  · exact g2 p q (by omega) hq hl
theorem UInv.next {rs : List PR} {ns : List PN} {U : Nat → List Int} {k c : Nat} {m : PN} (hm : ns[k]? = some m) (h : UInv rs ns U k (m.kids.length + 1) c) : UInv rs ns U (k + 1) 0 c := by
  refine ⟨fun j i m' hj hm' hd hi => ?_, fun _ _ h => absurd h (Nat.lt_irrefl _), h.lt, h.len⟩
  by_cases e : j = k
  · subst e
    rw [hm] at hm'
    obtain rfl := Option.some.inj hm'
    obtain ⟨g1, g2⟩ := h.now m hm (by omega)
    rcases hd with ⟨d1, d2⟩ | d
    · exact g1 d1 i d2 hi
    · obtain ⟨p, hp⟩ := List.getElem?_of_mem d
      exact g2 p i (by have := (List.getElem?_eq_some_iff.1 hp).1; omega) hp hi
  · exact h.all j i m' (by omega) hm' hd hi
end Go.Proofs.Ytocklhehfdilmaa
