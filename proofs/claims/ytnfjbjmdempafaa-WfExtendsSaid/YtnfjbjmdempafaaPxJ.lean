/- flow: newQueue; usersOf. flow: usersOf. flow: usersOf, the walk. -/
import Derived.Test.YtnfjbjmdempafaaPxFQ
import Derived.Test.YtnfjbjmdempafaaPxFlowRef
namespace Go.Proofs.Ytnfjbjmdempafaa
open Go.RowKit
def NewQ (n : Nat) (w : World) (e : Ending) (w' : World) : Prop := ∃ (m : Nat → Bool) (l : List Int), e = .returned (.pointer (some ⟨w.heap.size + 1, 0, none⟩)) ∧ Qs w.heap.size n (w.heap.size + 1) w.heap.size m l w' ∧ (∀ j, j < n → m j = true) ∧ Below w.heap.size w w'
set_option maxHeartbeats 4000000 in
set_option maxRecDepth 100000 in
theorem fnew_any (n : Nat) (w : World) (hn : n ≤ 100000) : Calls Try.prog 43 #[.int .i64 (n : Int)] w (NewQ n w) := by
  have hmk := fun w => run_make_row' (P := Try.prog) 38 4 (.bool false) 1 Try.underlying38 Try.infoBool rfl .i64 .i64 n (by omega) (by omega) w
  go_enter Try.func43, Try.ntmps43
  go_wp2
  go_loopw [10] (fun c wr => ∃ (k : Nat) (m : Nat → Bool) (l : List Int), k ≤ n ∧ c = .int .i64 (k : Int) ∧ Qs w.heap.size n (w.heap.size + 1) w.heap.size m l wr ∧ (∀ j, j < k → m j = true) ∧ Below w.heap.size w wr) (fun c _ => n - (intOf c).toNat)
  case atStart =>
    refine ⟨0, fun _ => false, [], Nat.zero_le _, rfl, ⟨⟨none, 0, Bl.new' (by simp), World.ownsRow_nil _ _ _ _⟩, ⟨madeCells #[.bool false] n, Bl.past (Bl.new w _ _), fun j hj => ?_⟩, Nat.le_succ _, Nat.le_refl _, QI.nil n⟩, fun j hj => absurd hj (Nat.not_lt_zero _), two_new _ _ _⟩
    simp [madeCells, hj, Nat.mod_one]
  case round =>
    obtain ⟨k, m, l, hk, rfl, hq, hm, hb⟩ := hrel
    have HQ := Lib.hid hq
    have HM := Lib.hid hm
    have HB := Lib.hid hb
    clear hq hm hb
    by_cases hlt : k < n
    · have k1 : (k : Int) < (n : Int) := by omega
      go_wp2_with (go_at_call 44; (with_reducible refine (fadd_any _ n _ _ k m l _ HQ.out hlt hn).mono ?_); rintro e w2 ⟨⟨v2, rfl⟩, l2, hq2, hk2⟩; have HQ2 := Lib.hid hq2; have HB2 := Lib.hid (HB.out.trans (hk2.below (Nat.le_succ _) (Nat.le_refl _) HB.out.size)); clear hq2 hk2)
      go_roundw
      case rel => exact ⟨k + 1, ins m k, l2, by omega, by go_num, HQ2.out, fun j hj => by by_cases e : j = k; subst e; exact ins_here m j; exact ins_keep (HM.out j (by omega)), HB2.out⟩
      case measure => simp [intOf]; omega
    · obtain rfl : k = n := by omega
      have k1 : ¬ (k : Int) < (k : Int) := by omega
      go_wp2
      go_ret
      exact ⟨m, l, rfl, HQ.out, HM.out, HB.out⟩
/- Who is told by whom. -/
/-- Rows of users, as they grow: V i is the slice of node i, with the users U i. -/
structure URows (base n UB : Nat) (U : Nat → List Int) (V : Nat → Value) (W : World) : Prop where
  bl : ∃ cs, Bl W UB 30 cs ∧ ∀ i, i < n → cs[i]? = some (V i)
  row : ∀ i, i < n → W.ownsRow base 3 1 (V i) (U i).length (intsV (U i))
  apart : ∀ i j, i < n → j < n → i ≠ j → (V i).ownBlock = none ∨ (V i).ownBlock ≠ (V j).ownBlock
section
variable {base n UB : Nat} {U : Nat → List Int} {V : Nat → Value} {W W' : World}
theorem URows.below (h : URows base n UB U V W) (hb : Below W.heap.size W W') : URows base n UB U V W' := by
  obtain ⟨⟨cs, h1, h2⟩, h3, h4⟩ := h
  exact ⟨⟨cs, h1.below hb, h2⟩, fun i hi => ownsRow_grown (h3 i hi) hb, h4⟩
theorem URows.lt (h : URows base n UB U V W) : UB < W.heap.size := by obtain ⟨⟨cs, h1, -⟩, -⟩ := h; exact h1.lt
theorem URows.cell {i : Nat} (h : URows base n UB U V W) (hi : i < n) : W.cell? ⟨UB, i, none⟩ = some (V i) := by obtain ⟨⟨cs, h1, h2⟩, -⟩ := h; exact h1.cell (h2 i hi)
theorem URows.free (h : URows base n UB U V W) (o : Nat) : W.frozen? ⟨UB, o, none⟩ = false := by obtain ⟨⟨cs, h1, h2⟩, -⟩ := h; exact h1.free o
def updU {α : Type} (U : Nat → α) (k : Nat) (x : α) (j : Nat) : α := if j = k then x else U j
/-- One user more: the row of node k has grown, and its slice is stored. -/
theorem URows.add {k : Nat} {x : Int} {v5 : Value} (h : URows base n UB U V W) (hk : k < n) (ho : W'.ownsRow base 3 1 v5 ((U k).length + 1) (intsV (U k) ++ [.int .i64 x])) (hg : W.grownBy W' (V k).ownBlock)
    (hv : v5.ownBlock = (V k).ownBlock ∨ v5.ownBlock = some W.heap.size) : URows base n UB (updU U k (U k ++ [x])) (updU V k v5) (W'.setCell ⟨UB, k, none⟩ v5) := by
  obtain ⟨⟨cs, h1, h2⟩, h3, h4⟩ := h
  have h1' : Bl W' UB 30 cs := h1.grown hg (fun g e => by obtain ⟨c, fz, hc⟩ := Lib.ownsRow_kind (h3 k hk) g e; exact ⟨c, 3, fz, hc, by decide⟩)
  have hlt : ∀ i, i < n → ∀ g, (V i).ownBlock = some g → g < W.heap.size := fun i hi g e => ((h3 i hi).lt g e).2
  refine ⟨⟨_, h1'.set' v5, fun i hi => ?_⟩, fun i hi => ?_, fun i j hi hj hne => ?_⟩
  · unfold updU
    by_cases e : i = k
    · subst e
      rw [if_pos rfl]
      exact Array.getElem?_setIfInBounds_self_of_lt (Array.getElem?_eq_some_iff.1 (h2 i hi)).1
    · rw [if_neg e, Array.getElem?_setIfInBounds_ne (by omega)]
      exact h2 i hi
  · unfold updU
    by_cases e : i = k
    · subst e
      rw [if_pos rfl, if_pos rfl, List.length_append, intsV_append]
      exact ownsRow_setCell_other ho (a := ⟨UB, i, none⟩) (row_ne ho ⟨_, _, h1'⟩ (by decide)) _
    · rw [if_neg e, if_neg e]
      have hr : W'.ownsRow base 3 1 (V i) (U i).length (intsV (U i)) := (h3 i hi).kept hg (h4 i k hi hk e)
      exact ownsRow_setCell_other hr (a := ⟨UB, k, none⟩) (row_ne hr ⟨_, _, h1'⟩ (by decide)) _
  · unfold updU
    by_cases e : i = k
    · subst e
      rw [if_pos rfl, if_neg (by omega)]
      rcases hv with hv | hv
      · rw [hv]; exact h4 i j hi hj hne
      · right
        rw [hv]
        intro e2
        have := hlt j hj _ e2.symm
        omega
    · rw [if_neg e]
      by_cases e2 : j = k
      · subst e2
        rw [if_pos rfl]
        rcases hv with hv | hv
        · rw [hv]; exact h4 i j hi hj hne
        · cases hvi : (V i).ownBlock with
          | none => left; rfl
          | some g =>
            right
            rw [hv]
            intro e3
            have := hlt i hi g hvi
            injection e3 with e3
            omega
      · rw [if_neg e2]; exact h4 i j hi hj hne
end
end Go.Proofs.Ytnfjbjmdempafaa
namespace Go.Proofs.Ytnfjbjmdempafaa
open Go.RowKit
theorem fuse_end {base n UB k : Nat} {x : Int} {U : Nat → List Int} {V : Nat → Value} {v v5 : Value} {w w1 w5 : World} (h : URows base n UB U V w) (hb : Below w.heap.size w w1) (hk : k < n) (hv : V k = v)
    (ho : w5.ownsRow base 3 1 v5 ((U k).length + 1) (intsV (U k) ++ [.int .i64 x])) (hg : w1.grownBy w5 v.ownBlock) (ht : v5.ownBlock = v.ownBlock ∨ v5.ownBlock = some w1.heap.size) :
    ∃ V', URows base n UB (updU U k (U k ++ [x])) V' (w5.setCell ⟨UB, k, none⟩ v5) ∧ Kp base UB UB 3 w (w5.setCell ⟨UB, k, none⟩ v5) := by
  have h1 := h.below hb
  rw [← hv] at hg ht
  obtain ⟨cs, hB, -⟩ := id h1.bl
  have hkind : ∀ g, (V k).ownBlock = some g → base ≤ g ∧ ∃ c fz, w1.heap[g]? = some (.cells c 3 fz) := fun g e => by
    obtain ⟨c, fz, hc⟩ := Lib.ownsRow_kind (h1.row k hk) g e
    exact ⟨((h1.row k hk).lt g e).1, c, fz, hc⟩
  have hB5 := hB.grown hg (fun g e => by obtain ⟨-, c, fz, hc⟩ := hkind g e; exact ⟨c, 3, fz, hc, by decide⟩)
  exact ⟨_, h1.add hk ho hg ht, ((Kp.of_below hb).trans (Kp.grown hg hkind)).trans (Kp.set hB5 (.inl rfl) _)⟩
set_option maxHeartbeats 8000000 in
set_option maxRecDepth 100000 in
theorem fuse_any (base n UB VB k : Nat) (x : Int) (U : Nat → List Int) (V : Nat → Value) (w : World) (hR : URows base n UB U V w) (hV : Bl w VB 79 #[.slice (some ⟨UB, 0, none⟩) n n]) (hk : k < n) (hl : (U k).length ≤ 900000) (hbs : base ≤ w.heap.size) :
    Calls Try.prog 58 #[.int .i64 (k : Int), .int .i64 x, .pointer (some ⟨VB, 0, none⟩)] w fun e w' => (∃ v, e = .returned v) ∧ ∃ V', URows base n UB (updU U k (U k ++ [x])) V' w' ∧ Kp base UB UB 3 w w' := by
  obtain ⟨ii, hii, hz0, hz1, hz2⟩ := info_parts infoInt
  have hrow := hR.row k hk
  obtain ⟨va, vc, hv⟩ := own_slice' hrow
  have c0 : w.cell? ⟨VB, 0, none⟩ = some (.slice (some ⟨UB, 0, none⟩) n n) := hV.cell (o := 0) rfl
  have cu := hR.cell hk
  have fu := hR.free k
  have lu := hR.lt
  have lv := hV.lt
  rw [hv] at hrow cu
  have k0 : (0 : Int) ≤ (k : Int) := by omega
  have k1 : (k : Int) < (n : Int) := by omega
  obtain ⟨cs, hUB, -⟩ := id hR.bl
  have HUB := Lib.hid hUB
  have HO := Lib.hid hrow
  have HR := Lib.hid hR
  have HVV := Lib.hid hv
  have HV := Lib.hid hV
  clear hR hV hrow hv hUB
  go_enter Try.func58, Try.ntmps58
  go_wp2
  go_region_law (refine step_append_own (by rfl) _ _ 30 (by rfl) base 3 ii _ 1 8 Try.underlying30 hii hz0 hz1 hz2 (by rfl) (by decide) (.slice va (U k).length vc) (U k).length _ (by simp [Act.eval]) (by refine ownsRow_grown HO.out ?_; repeat (first | exact Below.refl _ _ | refine Below.drew ?_ | refine below_alloc' ?_ rfl _)) _ 1 1 [.int .i64 x] (by simp [Act.eval]; rfl) (by rfl) (by refine Bl.news (t := 3) ?_; repeat (first | (refine Bl.new' ?_; simp; done) | refine Bl.drew ?_ | refine Bl.past ?_)) (by simp [Value.oneCell']) (by unfold maxLen; omega) (by omega) (by simp; omega) ?_; intro a5 c5 w5 hown5 hgrow5 hat5; have hbw5 : Hid (Below w.heap.size w (w.alloc (.cells #[.int .i64 x] 3)).drew) := Lib.hid (Below.drew (below_alloc' (Below.refl _ _) rfl _)); have hv5 := (HV.out.below hbw5.out).grown hgrow5 (fun g e => by obtain ⟨c, fz, hc⟩ := Lib.ownsRow_kind (ownsRow_grown HO.out hbw5.out) g e; exact ⟨c, 3, fz, hc, by decide⟩); have hu5 := (HUB.out.below hbw5.out).grown hgrow5 (fun g e => by obtain ⟨c, fz, hc⟩ := Lib.ownsRow_kind (ownsRow_grown HO.out hbw5.out) g e; exact ⟨c, 3, fz, hc, by decide⟩); have x0 : w5.cell? ⟨VB, 0, none⟩ = some (.slice (some ⟨UB, 0, none⟩) n n) := hv5.cell (o := 0) rfl; have xu := World.cell?_of_block (a := ⟨UB, k, none⟩) (show w5.heap[UB]? = w.heap[UB]? by unfold Bl at hu5; rw [hu5]; exact HUB.out.symm); rw [cu] at xu; have xf := hu5.free; have HO5 := Lib.hid hown5; have HG5 := Lib.hid hgrow5; have HT5 := Lib.hid hat5; clear hown5 hgrow5 hat5 hv5 hu5)
  all_goals
    go_wp2
    go_end0
    exact ⟨⟨_, rfl⟩, fuse_end HR.out hbw5.out hk HVV.out HO5.out HG5.out HT5.out⟩
/-- What the users of the nodes before k say. -/
structure UInv (rs : List PR) (ns : List PN) (U : Nat → List Int) (k : Nat) (t : Nat) (c : Nat) : Prop where
  all : ∀ (j i : Nat) (m : PN), j < k → ns[j]? = some m → Dep rs m i → i < ns.length → (j : Int) ∈ U i
  now : ∀ (m : PN), ns[k]? = some m → 0 < t → (m.op = 2 → ∀ i : Nat, rootF rs m.rule = (i : Int) → i < ns.length → (k : Int) ∈ U i) ∧ ∀ (p i : Nat), p + 1 < t → m.kids[p]? = some (i : Int) → i < ns.length → (k : Int) ∈ U i
  lt : ∀ i x, x ∈ U i → ∃ j : Nat, x = (j : Int) ∧ j < ns.length
  len : ∀ i, (U i).length ≤ c
theorem updU_mem {U : Nat → List Int} {k i : Nat} {x y : Int} (h : y ∈ U i) : y ∈ updU U k (U k ++ [x]) i := by
  unfold updU
  by_cases e : i = k
  · subst e; rw [if_pos rfl]; exact List.mem_append_left _ h
  · rw [if_neg e]; exact h
theorem updU_new (U : Nat → List Int) (k : Nat) (x : Int) : x ∈ updU U k (U k ++ [x]) k := by unfold updU; rw [if_pos rfl]; simp
theorem updU_inv {U : Nat → List Int} {k i : Nat} {x y : Int} (h : y ∈ updU U k (U k ++ [x]) i) : y ∈ U i ∨ y = x := by
  unfold updU at h
  by_cases e : i = k
  · subst e; rw [if_pos rfl] at h; simpa using h
  · rw [if_neg e] at h; exact .inl h
theorem UInv.start (rs : List PR) (ns : List PN) : UInv rs ns (fun _ => []) 0 0 0 := ⟨fun j i m h => absurd h (Nat.not_lt_zero _), fun m _ h => absurd h (Nat.lt_irrefl _), fun i x h => by simp at h, fun i => Nat.le_refl _⟩
/-- One user more, whoever it is told by. -/
theorem UInv.more {rs : List PR} {ns : List PN} {U : Nat → List Int} {k t c i : Nat} (h : UInv rs ns U k t c) (hk : k < ns.length) : UInv rs ns (updU U i (U i ++ [(k : Int)])) k t (c + 1) := by
  refine ⟨fun j p m a b d e => updU_mem (h.all j p m a b d e), fun m hm ht => ⟨fun a p b d => updU_mem ((h.now m hm ht).1 a p b d), fun p q a b d => updU_mem ((h.now m hm ht).2 p q a b d)⟩, fun p x hx => ?_, fun p => ?_⟩
  · rcases updU_inv hx with hx | hx
    · exact h.lt p x hx
    · exact ⟨k, hx, hk⟩
  · unfold updU
    split
    · rw [List.length_append]; have := h.len i; simp; omega
    · have := h.len p; omega
theorem UInv.grow {rs : List PR} {ns : List PN} {U : Nat → List Int} {k t c c' : Nat} (h : UInv rs ns U k t c) (hc : c ≤ c') : UInv rs ns U k t c' := ⟨h.all, h.now, h.lt, fun i => Nat.le_trans (h.len i) hc⟩
/-- A call's rule is told. -/
theorem UInv.call {rs : List PR} {ns : List PN} {U : Nat → List Int} {k c i : Nat} {m : PN} (h : UInv rs ns U k 0 c) (hm : ns[k]? = some m) (hr : rootF rs m.rule = (i : Int)) : UInv rs ns (updU U i (U i ++ [(k : Int)])) k 1 (c + 1) := by
  have h1 := h.more (i := i) (List.getElem?_eq_some_iff.1 hm).1
  refine ⟨h1.all, fun m' hm' _ => ?_, h1.lt, h1.len⟩
  rw [hm] at hm'
  obtain rfl := Option.some.inj hm'
  refine ⟨fun _ p hp _ => ?_, fun p q hp => absurd hp (by omega)⟩
  have : i = p := by rw [hr] at hp; omega
  subst this
  exact updU_new U i k
theorem UInv.nocall {rs : List PR} {ns : List PN} {U : Nat → List Int} {k c : Nat} {m : PN} (h : UInv rs ns U k 0 c) (hm : ns[k]? = some m) (h2 : m.op ≠ 2) : UInv rs ns U k 1 c := by
  refine ⟨h.all, fun m' hm' _ => ?_, h.lt, h.len⟩
  rw [hm] at hm'
  obtain rfl := Option.some.inj hm'
  exact ⟨fun e => absurd e h2, fun p q hp => absurd hp (by omega)⟩
theorem UInv.kid {rs : List PR} {ns : List PN} {U : Nat → List Int} {k t c i : Nat} {m : PN} (h : UInv rs ns U k (t + 1) c) (hm : ns[k]? = some m) (hi : m.kids[t]? = some (i : Int)) : UInv rs ns (updU U i (U i ++ [(k : Int)])) k (t + 2) (c + 1) := by
  have h1 := h.more (i := i) (List.getElem?_eq_some_iff.1 hm).1
  refine ⟨h1.all, fun m' hm' _ => ?_, h1.lt, h1.len⟩
  obtain ⟨g1, g2⟩ := h1.now m' hm' (by omega)
  refine ⟨g1, fun p q hp hq hl => ?_⟩
  by_cases e : p = t
  · subst e
    rw [hm] at hm'
    obtain rfl := Option.some.inj hm'
    rw [hi] at hq
    have : i = q := by injection hq with hq; omega
    subst this
    exact updU_new U i k
  · exact g2 p q (by omega) hq hl
theorem UInv.next {rs : List PR} {ns : List PN} {U : Nat → List Int} {k c : Nat} {m : PN} (hm : ns[k]? = some m) (h : UInv rs ns U k (m.kids.length + 1) c) : UInv rs ns U (k + 1) 0 c := by
  refine ⟨fun j i m' hj hm' hd hi => ?_, fun _ _ h => absurd h (Nat.lt_irrefl _), h.lt, h.len⟩
  by_cases e : j = k
  · subst e
    rw [hm] at hm'
    obtain rfl := Option.some.inj hm'
    obtain ⟨g1, g2⟩ := h.now m hm (by omega)
    rcases hd with ⟨d1, d2⟩ | d
    · exact g1 d1 i d2 hi
    · obtain ⟨p, hp⟩ := List.getElem?_of_mem d
      exact g2 p i (by have := (List.getElem?_eq_some_iff.1 hp).1; omega) hp hi
  · exact h.all j i m' (by omega) hm' hd hi
end Go.Proofs.Ytnfjbjmdempafaa
namespace Go.Proofs.Ytnfjbjmdempafaa
open Go.RowKit
theorem infoInts : (Try.prog.info? 30).map (fun i => (i.zero, i.size, i.bytes)) = some (some (.slice none 0 0), 1, 24) := by kernel_rfl
/-- What usersOf keeps in memory. -/
structure UsSt (rs : List PR) (ns : List PN) (rv nv : Value) (w : World) (k t c : Nat) (W : World) : Prop where
  lo : Below w.heap.size w W
  g : Bl W w.heap.size 25 #[rv, nv]
  v : Bl W (w.heap.size + 2) 79 #[.slice (some ⟨w.heap.size + 1, 0, none⟩) ns.length ns.length]
  u : ∃ U V, URows w.heap.size ns.length (w.heap.size + 1) U V W ∧ UInv rs ns U k t c
theorem UsSt.below {rs : List PR} {ns : List PN} {rv nv : Value} {w W W' : World} {k t c : Nat} (h : UsSt rs ns rv nv w k t c W) (hb : Below W.heap.size W W') : UsSt rs ns rv nv w k t c W' := by
  obtain ⟨h1, h2, h3, U, V, h4, h5⟩ := h
  exact ⟨bl_on h1 hb, h2.below hb, h3.below hb, U, V, h4.below hb, h5⟩
/-- The closure tells one user more. -/
theorem UsSt.use {rs : List PR} {ns : List PN} {rv nv : Value} {w W : World} {k t t' c i : Nat} (h : UsSt rs ns rv nv w k t c W) (hi : i < ns.length) (hc : c ≤ 900000) (hk : ∀ U, UInv rs ns U k t c → UInv rs ns (updU U i (U i ++ [(k : Int)])) k t' (c + 1)) :
    Calls Try.prog 58 #[.int .i64 (i : Int), .int .i64 (k : Int), .pointer (some ⟨w.heap.size + 2, 0, none⟩)] W fun e w' => (∃ v, e = .returned v) ∧ UsSt rs ns rv nv w k t' (c + 1) w' ∧ Kp w.heap.size (w.heap.size + 1) (w.heap.size + 1) 3 W w' := by
  obtain ⟨h1, h2, h3, U, V, h4, h5⟩ := h
  refine (fuse_any w.heap.size ns.length (w.heap.size + 1) (w.heap.size + 2) i (k : Int) U V W h4 h3 hi (Nat.le_trans (h5.len i) hc) h1.size).mono fun e w' ⟨he, V', g1, g2⟩ => ⟨he, ⟨h1.trans (g2.below (Nat.le_succ _) (Nat.le_succ _) h1.size), g2.bl h2 (by omega) (by omega) (by decide), g2.bl h3 (by omega) (by omega) (by decide), _, V', g1, hk U h5⟩, g2⟩
def UsersIs (rs : List PR) (ns : List PN) (w : World) (e : Ending) (w' : World) : Prop := ∃ U V, e = .returned (.slice (some ⟨w.heap.size + 1, 0, none⟩) ns.length ns.length) ∧ URows w.heap.size ns.length (w.heap.size + 1) U V w' ∧ UInv rs ns U ns.length 0 30000 ∧ Below w.heap.size w w'
set_option maxHeartbeats 8000000 in
set_option maxRecDepth 100000 in
theorem fusers_any (rv nv : Value) (rs : List PR) (ns : List PN) (w : World) (hR : RulesIn w rv rs) (hN : NodesAt w nv ns) (hO : FlowOk rs ns) :
    Calls Try.prog 42 #[.agg #[rv, nv]] w (UsersIs rs ns w) := by
  have hs := hO.nl
  obtain ⟨-, na, nc, rfl, hna⟩ := id hN
  have HR := Lib.hid (fun (W : World) (hb : Below w.heap.size w W) (r : Int) => froot_any rv (.slice na ns.length nc) rs r W (hR.kept hb (Nat.le_refl _)))
  obtain ⟨-, ra, rc, rfl, -⟩ := id hR
  have hmk := fun w => run_make_row' (P := Try.prog) 79 30 (.slice none 0 0) 24 Try.underlying79 infoInts rfl .i64 .i64 ns.length (by omega) (by omega) w
  have hmf : ∀ (fn : Fn) (first cap : Array Value) (w : World), (Instr.makeFunc fn first cap).run Try.prog w = .ok (.func fn first cap) w := fun _ _ _ _ => rfl
  clear hR hN
  go_enter Try.func42, Try.ntmps42
  go_wp2
  go_loopw [17] (fun d wr => ∃ k : Nat, k ≤ ns.length ∧ d = .int .i64 (k : Int) ∧ UsSt rs ns (.slice ra rs.length rc) (.slice na ns.length nc) w k 0 (k * 61) wr) (fun d _ => ns.length - (intOf d).toNat)
  case atStart =>
    refine ⟨0, Nat.zero_le _, rfl, bl_new (two_new _ _ _), Bl.past (Bl.past (Bl.new w _ _)), Bl.new' (by simp), fun _ => [], fun _ => .slice none 0 0, ⟨⟨madeCells #[.slice none 0 0] ns.length, Bl.past (Bl.new' (by simp)), fun i hi => ?_⟩, fun i hi => World.ownsRow_nil _ _ _ _, fun i j _ _ _ => .inl rfl⟩, UInv.start rs ns⟩
    simp [madeCells, hi, Nat.mod_one]
  case round =>
    obtain ⟨k, hk, rfl, hq⟩ := hrel
    have g0 : wr.cell? ⟨w.heap.size, 0, none⟩ = some (.slice ra rs.length rc) := hq.g.cell (o := 0) rfl
    have g1 : wr.cell? ⟨w.heap.size, 1, none⟩ = some (.slice na ns.length nc) := hq.g.cell (o := 1) rfl
    by_cases hlt : k < ns.length
    · have k1 : (k : Int) < (ns.length : Int) := by omega
      obtain ⟨n, hn⟩ : ∃ n, ns[k]? = some n := ⟨_, List.getElem?_eq_getElem hlt⟩
      rcases hna with h0 | ⟨nb, no, rfl, hca⟩
      · rw [h0] at hlt; exact absurd hlt (Nat.not_lt_zero _)
      obtain ⟨kv, c0, c1, c2, c3, c4, c5, c6, hki, -⟩ := hca k n hn
      have lr := lt_of_cell c0
      rw [← (bcell hq.lo).1 _ _ lr] at c0 c1 c2 c3 c4 c5 c6
      obtain ⟨ka, kc, rfl, hkc⟩ := hki
      have hI := hO.ok n (List.mem_of_getElem? hn)
      have HKID := Lib.hid hI.kid
      have HKL := Lib.hid (hO.kl n (List.mem_of_getElem? hn))
      have HN := Lib.hid hn
      have lw : nb < wr.heap.size := Nat.lt_of_lt_of_le lr hq.lo.size
      have HQ1 := Lib.hid (hq.below (one_new wr (.cells #[.int .i64 n.op, .slice ka n.kids.length kc, .int .i64 n.rule, .int .u64 n.s0, .int .u64 n.s1, .int .u64 n.s2, .int .u64 n.s3] 35)))
      have HNB := Lib.hid (Bl.new wr 35 #[.int .i64 n.op, .slice ka n.kids.length kc, .int .i64 n.rule, .int .u64 n.s0, .int .u64 n.s1, .int .u64 n.s2, .int .u64 n.s3])
      have hks : k * 61 ≤ 24400 := by omega
      have hne : wr.heap.size ≠ w.heap.size + 1 := by have := hq.v.lt; omega
      have HNE := Lib.hid hne
      have lg := hq.g.lt
      have lv2 := hq.v.lt
      clear hca hn hq hne
      by_cases e2 : n.op = 2
      · have q2 : (n.op == 2) = true := by rw [e2]; rfl
        obtain ⟨r, x, hr, hx, x0, x1⟩ := hI.root e2
        obtain ⟨i, hi⟩ : ∃ i : Nat, x.root = i := ⟨x.root.toNat, by omega⟩
        have hroot : rootF rs n.rule = (i : Int) := by rw [hr, rootF_at hx, hi]
        have hil : i < ns.length := by omega
        have HRT := Lib.hid hroot
        rw [e2] at c0 HQ1 HNB
        have HE2 := Lib.hid e2
        clear hI hr hx x0 x1 hi hroot e2 q2
        go_wp2_with (first
          | (go_at_call 59; (with_reducible refine (HR.out _ HQ1.out.lo n.rule).mono ?_); rintro e w5 ⟨rfl, hb⟩; rw [HRT.out]; have HQ5 := Lib.hid (HQ1.out.below hb); have HNB5 := Lib.hid (HNB.out.below hb); clear hb)
          | (go_at_call 58; (with_reducible refine (HQ5.out.use (t' := 1) (i := i) hil (by omega) (fun U h => h.call HN.out HRT.out)).mono ?_); rintro e w6 ⟨⟨v6, rfl⟩, hu6, hk6⟩; have n6 := hk6.bl HNB5.out HNE.out HNE.out (by decide); have b1 : w6.cell? ⟨wr.heap.size, 1, none⟩ = some (.slice ka n.kids.length kc) := n6.cell (o := 1) rfl; have ln := n6.lt; have HU8 := Lib.hid hu6; clear hu6 hk6 n6))
        go_loopw [35] (fun d wx => ∃ t : Nat, t ≤ n.kids.length ∧ d = .int .i64 (t : Int) ∧ UsSt rs ns (.slice ra rs.length rc) (.slice (some ⟨nb, no, none⟩) ns.length nc) w k (t + 1) (k * 61 + 1 + t) wx) (fun d _ => n.kids.length - (intOf d).toNat)
        case atStart => exact ⟨0, Nat.zero_le _, rfl, HU8.out⟩
        case round =>
          obtain ⟨t, ht, rfl, hq⟩ := hrel
          by_cases htl : t < n.kids.length
          · have t1 : (t : Int) < (n.kids.length : Int) := by omega
            obtain ⟨x, hx⟩ : ∃ x, n.kids[t]? = some x := ⟨_, List.getElem?_eq_getElem htl⟩
            have hkl := HKL.out
            obtain ⟨x0, x1⟩ := HKID.out x (List.mem_of_getElem? hx)
            obtain ⟨i, rfl⟩ : ∃ i : Nat, x = i := ⟨x.toNat, by omega⟩
            rcases hkc with h0 | ⟨kb, ko, rfl, hkc⟩
            · rw [h0] at htl; exact absurd htl (Nat.not_lt_zero _)
            have kx := hkc t _ hx
            have lk := lt_of_cell kx
            rw [← (bcell hq.lo).1 _ _ lk] at kx
            have HC := Lib.hid (hq.use (t' := t + 2) (i := i) (by omega) (by omega) (fun U h => h.kid HN.out hx))
            clear hx hkc hq
            go_wp2_with (go_at_call 58; (with_reducible refine HC.out.mono ?_); rintro e w7 ⟨⟨v7, rfl⟩, hu7, -⟩; have HU7 := Lib.hid hu7; clear hu7)
            go_roundw
            case rel => exact ⟨t + 1, by omega, by go_num, HU7.out⟩
            case measure => simp [intOf]; omega
          · obtain rfl : t = n.kids.length := by omega
            have t1 : ¬ (n.kids.length : Int) < (n.kids.length : Int) := by omega
            have HQ := Lib.hid hq
            clear hq
            go_wp2
            refine ⟨⟨k + 1, by omega, by go_num, ?_⟩, by simp [intOf]; omega⟩
            obtain ⟨a1, a2, a3, U, V, a4, a5⟩ := HQ.out
            exact ⟨a1, a2, a3, U, V, a4, (UInv.next HN.out a5).grow (by have := HKL.out; omega)⟩
      · have q2 : (n.op == 2) = false := ibeq_no e2
        have HU8 := Lib.hid (show UsSt rs ns (.slice ra rs.length rc) (.slice (some ⟨nb, no, none⟩) ns.length nc) w k 1 (k * 61 + 1) _ from by obtain ⟨a1, a2, a3, U, V, a4, a5⟩ := HQ1.out; exact ⟨a1, a2, a3, U, V, a4, (a5.nocall HN.out e2).grow (Nat.le_succ _)⟩)
        clear hI
        go_wp2
        go_loopw [35] (fun d wx => ∃ t : Nat, t ≤ n.kids.length ∧ d = .int .i64 (t : Int) ∧ UsSt rs ns (.slice ra rs.length rc) (.slice (some ⟨nb, no, none⟩) ns.length nc) w k (t + 1) (k * 61 + 1 + t) wx) (fun d _ => n.kids.length - (intOf d).toNat)
        case atStart => exact ⟨0, Nat.zero_le _, rfl, HU8.out⟩
        case round =>
          obtain ⟨t, ht, rfl, hq⟩ := hrel
          by_cases htl : t < n.kids.length
          · have t1 : (t : Int) < (n.kids.length : Int) := by omega
            obtain ⟨x, hx⟩ : ∃ x, n.kids[t]? = some x := ⟨_, List.getElem?_eq_getElem htl⟩
            have hkl := HKL.out
            obtain ⟨x0, x1⟩ := HKID.out x (List.mem_of_getElem? hx)
            obtain ⟨i, rfl⟩ : ∃ i : Nat, x = i := ⟨x.toNat, by omega⟩
            rcases hkc with h0 | ⟨kb, ko, rfl, hkc⟩
            · rw [h0] at htl; exact absurd htl (Nat.not_lt_zero _)
            have kx := hkc t _ hx
            have lk := lt_of_cell kx
            rw [← (bcell hq.lo).1 _ _ lk] at kx
            have HC := Lib.hid (hq.use (t' := t + 2) (i := i) (by omega) (by omega) (fun U h => h.kid HN.out hx))
            clear hx hkc hq
            go_wp2_with (go_at_call 58; (with_reducible refine HC.out.mono ?_); rintro e w7 ⟨⟨v7, rfl⟩, hu7, -⟩; have HU7 := Lib.hid hu7; clear hu7)
            go_roundw
            case rel => exact ⟨t + 1, by omega, by go_num, HU7.out⟩
            case measure => simp [intOf]; omega
          · obtain rfl : t = n.kids.length := by omega
            have t1 : ¬ (n.kids.length : Int) < (n.kids.length : Int) := by omega
            have HQ := Lib.hid hq
            clear hq
            go_wp2
            refine ⟨⟨k + 1, by omega, by go_num, ?_⟩, by simp [intOf]; omega⟩
            obtain ⟨a1, a2, a3, U, V, a4, a5⟩ := HQ.out
            exact ⟨a1, a2, a3, U, V, a4, (UInv.next HN.out a5).grow (by have := HKL.out; omega)⟩
    · obtain rfl : k = ns.length := by omega
      have k1 : ¬ (ns.length : Int) < (ns.length : Int) := by omega
      have b0 : wr.cell? ⟨w.heap.size + 2, 0, none⟩ = some (.slice (some ⟨w.heap.size + 1, 0, none⟩) ns.length ns.length) := hq.v.cell (o := 0) rfl
      have lv := hq.v.lt
      have HQ := Lib.hid hq
      clear hq
      go_wp2
      go_ret
      obtain ⟨a1, a2, a3, U, V, a4, a5⟩ := HQ.out
      exact ⟨U, V, rfl, a4, a5.grow (by omega), a1⟩
end Go.Proofs.Ytnfjbjmdempafaa
