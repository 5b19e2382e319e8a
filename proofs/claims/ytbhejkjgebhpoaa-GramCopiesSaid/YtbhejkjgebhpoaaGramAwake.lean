/- The fixed examples of package gram. -/
import Derived.Test.YtbhejkjgebhpoaaGramTxt
namespace Go.Proofs.Ytbhejkjgebhpoaa
open Go.RowKit
def exR : List PR := [⟨⟨#[65]⟩, 4⟩]
def exN : List PN := [⟨1, [], 0, 0, 8589934592, 0, 0⟩, ⟨2, [], 0, 0, 0, 0, 0⟩, ⟨3, [0, 1], 0, 0, 0, 0, 0⟩, ⟨0, [], 0, 0, 0, 0, 0⟩, ⟨4, [2, 3], 0, 0, 0, 0, 0⟩]
theorem ex_ok : chkL exR exN = .ok := by kernel_rfl
theorem ex_bad : chkL [⟨⟨#[49]⟩, 0⟩] [⟨0, [], 0, 0, 0, 0, 0⟩] = .rules 0 := by kernel_rfl
theorem alloc_at (w : World) (o : Obj) (k : Nat) (x : Obj) (h : w.heap[k]? = some x) : (w.alloc o).heap[k]? = some x := by
  rw [Below.heap_alloc w o k (Array.getElem?_eq_some_iff.1 h).1]; exact h
theorem alloc_new' (w : World) (o : Obj) (k : Nat) (h : w.heap.size = k) : (w.alloc o).heap[k]? = some o := by subst h; exact heap_alloc_new w o
theorem five_blocks (w : World) (o0 o1 o2 o3 o4 : Obj) (n : Nat) (hn : w.heap.size = n) (W : World) (hW : ((((w.alloc o0).alloc o1).alloc o2).alloc o3).alloc o4 = W) :
    W.heap[n]? = some o0 ∧ W.heap[n + 1]? = some o1 ∧ W.heap[n + 1 + 1]? = some o2 ∧ W.heap[n + 1 + 1 + 1]? = some o3 ∧ W.heap[n + 1 + 1 + 1 + 1]? = some o4 ∧ Below w.heap.size w W := by
  subst hW
  have s1 : (w.alloc o0).heap.size = n + 1 := by rw [World.size_alloc, hn]
  have s2 : ((w.alloc o0).alloc o1).heap.size = n + 1 + 1 := by rw [World.size_alloc, s1]
  have s3 : (((w.alloc o0).alloc o1).alloc o2).heap.size = n + 1 + 1 + 1 := by rw [World.size_alloc, s2]
  have s4 : ((((w.alloc o0).alloc o1).alloc o2).alloc o3).heap.size = n + 1 + 1 + 1 + 1 := by rw [World.size_alloc, s3]
  exact ⟨alloc_at _ _ _ _ (alloc_at _ _ _ _ (alloc_at _ _ _ _ (alloc_at _ _ _ _ (alloc_new' w o0 n hn)))), alloc_at _ _ _ _ (alloc_at _ _ _ _ (alloc_at _ _ _ _ (alloc_new' _ o1 _ s1))), alloc_at _ _ _ _ (alloc_at _ _ _ _ (alloc_new' _ o2 _ s2)), alloc_at _ _ _ _ (alloc_new' _ o3 _ s3), alloc_new' _ o4 _ s4,
    ((((((Below.refl _ _).alloc (Nat.le_refl _) _).alloc (by omega) _).alloc (by omega) _).alloc (by omega) _).alloc (by omega) _)⟩
set_option maxHeartbeats 2000000 in
set_option maxRecDepth 100000 in
theorem small_any (w : World) : Calls Try.prog 19 #[] w fun e w' => (∃ (ra na : Option Addr) (rc nc : Nat), e = .returned (.agg #[.slice ra 1 rc, .slice na 5 nc]) ∧ RulesIn w' (.slice ra 1 rc) exR ∧ NodesAt w' (.slice na 5 nc) exN) ∧ Below w.heap.size w w' := by
  go_enter Try.func19, Try.ntmps19
  go_wp2
  obtain ⟨n, hn⟩ : ∃ n, w.heap.size = n := ⟨_, rfl⟩
  generalize hW : ((((w.alloc _).alloc _).alloc _).alloc _).alloc _ = W
  rw [hn] at hW
  obtain ⟨hc, h1, h2, h3, h4, hb⟩ := five_blocks w _ _ _ _ _ n hn W hW
  have h0 : W.cell? ⟨n, 0, none⟩ = some (.slice (some ⟨n + 1, 0, none⟩) 1 1) := by simp [World.cell?, hc]
  have h00 : W.cell? ⟨n, 1, none⟩ = some (.slice (some ⟨n + 1 + 1 + 1 + 1, 0, none⟩) 5 5) := by simp [World.cell?, hc]
  rw [hn]
  clear hW
  refine bodyPost_ret (v := .agg #[.slice (some ⟨n + 1, 0, none⟩) 1 1, .slice (some ⟨n + 1 + 1 + 1 + 1, 0, none⟩) 5 5]) (by simp [results, Try.results19, go_sem, h0, h00]) rfl ⟨⟨_, _, _, _, rfl, ⟨by decide, _, _, rfl, .inr ⟨_, 0, rfl, fun i r hr => ?_⟩⟩, ⟨by decide, _, _, rfl, .inr ⟨_, 0, rfl, fun i r hr => ?_⟩⟩⟩, by rw [← hn]; exact hb⟩
  · match i, hr with
    | 0, hr =>
      obtain rfl := Option.some.inj hr
      exact ⟨by simp [World.cell?, h1], by simp [World.cell?, h1]⟩
    | i + 1, hr => simp [exR] at hr
  · match i, hr with
    | 0, hr =>
      obtain rfl := Option.some.inj hr
      exact ⟨.slice none 0 0, by simp [World.cell?, h4], by simp [World.cell?, h4], by simp [World.cell?, h4], by simp [World.cell?, h4], by simp [World.cell?, h4], by simp [World.cell?, h4], by simp [World.cell?, h4], ⟨none, 0, rfl, .inl rfl⟩, by decide⟩
    | 1, hr =>
      obtain rfl := Option.some.inj hr
      exact ⟨.slice none 0 0, by simp [World.cell?, h4], by simp [World.cell?, h4], by simp [World.cell?, h4], by simp [World.cell?, h4], by simp [World.cell?, h4], by simp [World.cell?, h4], by simp [World.cell?, h4], ⟨none, 0, rfl, .inl rfl⟩, by decide⟩
    | 2, hr =>
      obtain rfl := Option.some.inj hr
      exact ⟨.slice (some ⟨n + 1 + 1, 0, none⟩) 2 2, by simp [World.cell?, h4], by simp [World.cell?, h4], by simp [World.cell?, h4], by simp [World.cell?, h4], by simp [World.cell?, h4], by simp [World.cell?, h4], by simp [World.cell?, h4], ⟨_, 2, rfl, .inr ⟨_, 0, rfl, fun j x hx => by
        match j, hx with
        | 0, hx => obtain rfl := Option.some.inj hx; simp [World.cell?, h2]
        | 1, hx => obtain rfl := Option.some.inj hx; simp [World.cell?, h2]
        | j + 2, hx => simp at hx⟩⟩, by decide⟩
    | 3, hr =>
      obtain rfl := Option.some.inj hr
      exact ⟨.slice none 0 0, by simp [World.cell?, h4], by simp [World.cell?, h4], by simp [World.cell?, h4], by simp [World.cell?, h4], by simp [World.cell?, h4], by simp [World.cell?, h4], by simp [World.cell?, h4], ⟨none, 0, rfl, .inl rfl⟩, by decide⟩
    | 4, hr =>
      obtain rfl := Option.some.inj hr
      exact ⟨.slice (some ⟨n + 1 + 1 + 1, 0, none⟩) 2 2, by simp [World.cell?, h4], by simp [World.cell?, h4], by simp [World.cell?, h4], by simp [World.cell?, h4], by simp [World.cell?, h4], by simp [World.cell?, h4], by simp [World.cell?, h4], ⟨_, 2, rfl, .inr ⟨_, 0, rfl, fun j x hx => by
        match j, hx with
        | 0, hx => obtain rfl := Option.some.inj hx; simp [World.cell?, h3]
        | 1, hx => obtain rfl := Option.some.inj hx; simp [World.cell?, h3]
        | j + 2, hx => simp at hx⟩⟩, by decide⟩
    | i + 5, hr => simp [exN] at hr
def badR : List PR := [⟨⟨#[49]⟩, 0⟩]
def badN : List PN := [⟨0, [], 0, 0, 0, 0, 0⟩]
theorem bad_in (w : World) (n : Nat) (hn : w.heap.size = n) : RulesIn ((w.alloc (.cells #[.string ⟨#[49]⟩, .int .i64 0] 40)).alloc (.cells #[.int .i64 0, .slice none 0 0, .int .i64 0, .int .u64 0, .int .u64 0, .int .u64 0, .int .u64 0] 38)) (.slice (some ⟨n, 0, none⟩) 1 1) badR ∧
    NodesAt ((w.alloc (.cells #[.string ⟨#[49]⟩, .int .i64 0] 40)).alloc (.cells #[.int .i64 0, .slice none 0 0, .int .i64 0, .int .u64 0, .int .u64 0, .int .u64 0, .int .u64 0] 38)) (.slice (some ⟨n + 1, 0, none⟩) 1 1) badN := by
  generalize hW : ((w.alloc (.cells #[.string ⟨#[49]⟩, .int .i64 0] 40)).alloc (.cells #[.int .i64 0, .slice none 0 0, .int .i64 0, .int .u64 0, .int .u64 0, .int .u64 0, .int .u64 0] 38)) = W
  have h1 : W.heap[n]? = some (.cells #[.string ⟨#[49]⟩, .int .i64 0] 40 (0, 0)) := by rw [← hW]; exact alloc_at _ _ _ _ (alloc_new' w _ n hn)
  have h2 : W.heap[n + 1]? = some (.cells #[.int .i64 0, .slice none 0 0, .int .i64 0, .int .u64 0, .int .u64 0, .int .u64 0, .int .u64 0] 38 (0, 0)) := by rw [← hW]; exact alloc_new' _ _ (n + 1) (by rw [World.size_alloc, hn])
  refine ⟨⟨by decide, _, _, rfl, .inr ⟨_, 0, rfl, fun i r hr => ?_⟩⟩, ⟨by decide, _, _, rfl, .inr ⟨_, 0, rfl, fun i r hr => ?_⟩⟩⟩
  · match i, hr with
    | 0, hr =>
      obtain rfl := Option.some.inj hr
      exact ⟨by simp [World.cell?, h1], by simp [World.cell?, h1]⟩
    | i + 1, hr => simp [badR] at hr
  · match i, hr with
    | 0, hr =>
      obtain rfl := Option.some.inj hr
      exact ⟨.slice none 0 0, by simp [World.cell?, h2], by simp [World.cell?, h2], by simp [World.cell?, h2], by simp [World.cell?, h2], by simp [World.cell?, h2], by simp [World.cell?, h2], by simp [World.cell?, h2], ⟨none, 0, rfl, .inl rfl⟩, by decide⟩
    | i + 1, hr => simp [badN] at hr
theorem bad_check (w : World) (n : Nat) (hn : w.heap.size = n) : Calls Try.prog 20 #[.agg #[.slice (some ⟨n, 0, none⟩) 1 1, .slice (some ⟨n + 1, 0, none⟩) 1 1]] ((w.alloc (.cells #[.string ⟨#[49]⟩, .int .i64 0] 40)).alloc (.cells #[.int .i64 0, .slice none 0 0, .int .i64 0, .int .u64 0, .int .u64 0, .int .u64 0, .int .u64 0] 38)) fun e w' =>
    (∃ b, e = .returned (.iface 70 (.pointer (some ⟨b, 0, none⟩))) ∧ w'.cell? ⟨b, 0, none⟩ = some (.string sRules) ∧ w'.cell? ⟨b, 1, none⟩ = some (.iface 74 (.agg #[.int .i64 10, .int .i64 0]))) ∧ Below w.heap.size w w' := by
  obtain ⟨h1, h2⟩ := bad_in w n hn
  have := check_any _ _ badR badN _ h1 h2 (fun r hr => by
    have : r = ⟨⟨#[49]⟩, 0⟩ := by simpa [badR] using hr
    subst this; decide)
  rw [show chkL badR badN = .rules 0 from ex_bad] at this
  refine this.mono fun e w' hh => ?_
  obtain ⟨⟨b, he, a0, a1, -⟩, hb⟩ := hh
  exact ⟨⟨b, he, a0, a1⟩, two_then hb (Nat.le_refl _)⟩
theorem ex_names : ∀ r, r ∈ exR → r.name.size ≤ 2000000 := fun r hr => by
  have : r = ⟨⟨#[65]⟩, 4⟩ := by simpa [exR] using hr
  subst this; decide
theorem ex_kids : ∀ n, n ∈ exN → n.kids.length ≤ 1000000 := fun n hn => by
  simp [exN] at hn
  rcases hn with rfl | rfl | rfl | rfl | rfl <;> decide
theorem ex_order : ordR exN exR (-1) = true := by kernel_rfl
theorem ex_d4 : dpL exN 4 = 3 := by kernel_rfl
theorem ex_f4 : fstL exN 4 = 0 := by kernel_rfl
theorem ex_f3 : fstL exN 3 = 3 := by kernel_rfl
theorem ex_o2 : ownL exR 2 = 0 := by kernel_rfl
/-- The check of the fixed examples holds. -/
def GramAwake : Prop := ∀ w, Calls Try.prog 6 #[] w fun e w' => e = .returned (.bool true) ∧ Below w.heap.size w w'
/-- What stays through the region of the examples. -/
theorem gawK {n G B b : Nat} {x0 x1 : Value} {w W W' : World} (hn : n ≤ w.heap.size) (hb : Below W.heap.size W W') (h : W.cell? ⟨G, 0, none⟩ = some x0 ∧ W.cell? ⟨G, 1, none⟩ = some x1 ∧ W.cell? ⟨B, 4, none⟩ = some (.int .i64 3) ∧ W.cell? ⟨b, 0, none⟩ = some (.string sRules) ∧ W.cell? ⟨b, 1, none⟩ = some (.iface 74 (.agg #[.int .i64 10, .int .i64 0])) ∧ Below n w W) :
    W'.cell? ⟨G, 0, none⟩ = some x0 ∧ W'.cell? ⟨G, 1, none⟩ = some x1 ∧ W'.cell? ⟨B, 4, none⟩ = some (.int .i64 3) ∧ W'.cell? ⟨b, 0, none⟩ = some (.string sRules) ∧ W'.cell? ⟨b, 1, none⟩ = some (.iface 74 (.agg #[.int .i64 10, .int .i64 0])) ∧ Below n w W' := by
  obtain ⟨h0, h1, h2, h3, h4, h5⟩ := h
  have hc := (bcell hb).1
  exact ⟨by rw [hc _ _ (lt_of_cell h0)]; exact h0, by rw [hc _ _ (lt_of_cell h1)]; exact h1, by rw [hc _ _ (lt_of_cell h2)]; exact h2, by rw [hc _ _ (lt_of_cell h3)]; exact h3, by rw [hc _ _ (lt_of_cell h4)]; exact h4, h5.trans (hb.mono (Nat.le_trans hn h5.size))⟩
set_option maxHeartbeats 8000000 in
set_option maxRecDepth 100000 in
theorem gramAwake : GramAwake := fun w => by
  have HB0 := Lib.hid (Below.refl w.heap.size w)
  go_enter Try.func6, Try.ntmps6
  go_upto_region 2 with (go_at_call 19; (with_reducible refine (small_any _).mono ?_); rintro e w1 ⟨⟨ra, na, rc, nc, rfl, hr, hn⟩, hb⟩; have HR := Lib.hid hr; have HN := Lib.hid hn; have HB := Lib.hid hb; clear hr hn hb)
  obtain ⟨W2, hW2⟩ : ∃ W2, w1.alloc (.cells #[.slice ra 1 rc, .slice na 5 nc] 25) = W2 := ⟨_, rfl⟩
  obtain ⟨G, hG⟩ : ∃ G, w1.heap.size = G := ⟨_, rfl⟩
  have hb2 : Below G w1 W2 := by rw [← hW2, ← hG]; exact one_new w1 _
  have hs2 : W2.heap.size = G + 1 := by rw [← hW2, ← hG, World.size_alloc]
  have b0 : W2.cell? ⟨G, 0, none⟩ = some (.slice ra 1 rc) := by rw [← hW2, ← hG]; simp
  have b1 : W2.cell? ⟨G, 1, none⟩ = some (.slice na 5 nc) := by rw [← hW2, ← hG]; simp
  rw [hW2, hG]
  rw [hG.symm] at hb2
  have HG := Lib.hid hG
  have hD : ∀ W, Below w1.heap.size w1 W → Calls Try.prog 8 #[.agg #[.slice ra 1 rc, .slice na 5 nc]] W fun e w' => (∃ B cap, e = .returned (.slice (some ⟨B, 0, none⟩) 5 cap) ∧ w'.cell? ⟨B, 4, none⟩ = some (.int .i64 3)) ∧ Below W.heap.size W w' := fun W hW =>
    (depths_any ra 1 rc _ exN W (HN.out.kept hW (Nat.le_refl _)) (by decide) (ordR_ex ex_order).kids).mono fun e w' ⟨⟨B, cap, he, _, _, hnat⟩, hb⟩ => ⟨⟨B, cap, he, by have := (hnat 4 (by decide)).1; rw [ex_d4] at this; exact this⟩, hb⟩
  have HD := Lib.hid hD
  have HBC := Lib.hid (bad_check W2 (G + 1) hs2)
  have HW := Lib.hid hb2
  clear hD hG hW2 hb2
  go_upto_region 6 with (first
    | (go_at_call 20; (with_reducible refine HBC.out.mono ?_); rintro e w3 ⟨⟨b, rfl, hb3, hb4⟩, hb⟩; replace HW := Lib.hid (HW.out.trans (hb.mono HW.out.size)); have q0 := (bcell hb).1 G 0 (by omega); have q1 := (bcell hb).1 G 1 (by omega); rw [b0] at q0; rw [b1] at q1; have HE := Lib.hid (And.intro hb3 hb4); clear hb hb3 hb4)
    | (go_at_call 8; (with_reducible refine (HD.out _ HW.out).mono ?_); rintro e w4 ⟨⟨B, cap, rfl, hd4⟩, hb⟩; replace HW := Lib.hid (HW.out.trans (hb.mono HW.out.size)); have p0 := (bcell hb).1 _ 0 (lt_of_cell q0); have p1 := (bcell hb).1 _ 1 (lt_of_cell q1); rw [q0] at p0; rw [q1] at p1; have p2 := (bcell hb).1 _ 0 (lt_of_cell HE.out.1); have p3 := (bcell hb).1 _ 1 (lt_of_cell HE.out.2); rw [HE.out.1] at p2; rw [HE.out.2] at p3; clear hb q0 q1))
  have hCk : ∀ W, Below w1.heap.size w1 W → Calls Try.prog 20 #[.agg #[.slice ra 1 rc, .slice na 5 nc]] W fun e w' => e = .returned .nilIface ∧ Below W.heap.size W w' := fun W hW => by
    have := check_any _ _ exR exN W (HR.out.kept hW (Nat.le_refl _)) (HN.out.kept hW (Nat.le_refl _)) ex_names
    rw [ex_ok] at this; exact this
  have hF4 : ∀ W, Below w1.heap.size w1 W → Calls Try.prog 9 #[.agg #[.slice ra 1 rc, .slice na 5 nc], .int .i64 4] W fun e w' => e = .returned (.int .i64 0) ∧ Below W.heap.size W w' := fun W hW => by
    have := first_any ra 1 rc _ exN 4 W (HN.out.kept hW (Nat.le_refl _)) (by decide) (ordR_ex ex_order 4 (by decide) (by decide))
    have h4 : fstL exN ((4 : Nat) : Int) = 0 := ex_f4
    rw [h4] at this; exact this
  have hF3 : ∀ W, Below w1.heap.size w1 W → Calls Try.prog 9 #[.agg #[.slice ra 1 rc, .slice na 5 nc], .int .i64 3] W fun e w' => e = .returned (.int .i64 3) ∧ Below W.heap.size W w' := fun W hW => by
    have := first_any ra 1 rc _ exN 3 W (HN.out.kept hW (Nat.le_refl _)) (by decide) (ordR_ex ex_order 3 (by decide) (by decide))
    have h4 : fstL exN ((3 : Nat) : Int) = 3 := ex_f3
    rw [h4] at this; exact this
  have hOw : ∀ W, Below w1.heap.size w1 W → Calls Try.prog 12 #[.agg #[.slice ra 1 rc, .slice na 5 nc], .int .i64 2] W fun e w' => e = .returned (.int .i64 0) ∧ Below W.heap.size W w' := fun W hW => by
    have := owner_any _ na 5 nc exR 2 W (by decide) (HR.out.kept hW (Nat.le_refl _)) (-1) (ordR_up exR (-1) ex_order)
    rw [ex_o2] at this; exact this
  have hCl : ∀ W, Below w1.heap.size w1 W → Calls Try.prog 16 #[.agg #[.slice ra 1 rc, .slice na 5 nc]] W fun e w' => ∃ rv nv, e = .returned (.agg #[rv, nv]) ∧ (RulesIn w' rv exR ∧ NodesAt w' nv exN) ∧ Below W.heap.size W w' := fun W hW =>
    (gclone_any _ _ exR exN W (HR.out.kept hW (Nat.le_refl _)) (HN.out.kept hW (Nat.le_refl _)) (by decide) (by decide) ex_names ex_kids).mono fun e w' hh => by
      obtain ⟨rv, nv, qs, he, hq, h1, h2, h3, hb⟩ := hh
      exact ⟨rv, nv, he, ⟨RulesIn.of_own h1 (by decide), NodesAt.of_own h2 hq (by decide) (fun i n q a1 a2 => ⟨IntsAt.of_own (h3 i n q a1 a2), by have := ex_kids n (List.mem_of_getElem? a1); unfold maxLen; omega⟩)⟩, hb⟩
  have hS1 : ∀ rv nv W, Below w1.heap.size w1 W → RulesIn W rv exR ∧ NodesAt W nv exN → Calls Try.prog 17 #[.agg #[.slice ra 1 rc, .slice na 5 nc], .agg #[rv, nv]] W fun e w' => e = .returned (.bool true) ∧ Below W.heap.size W w' := fun rv nv W hW h => by
    have := same_any _ _ rv nv exR exR exN exN W (HR.out.kept hW (Nat.le_refl _)) (HN.out.kept hW (Nat.le_refl _)) h.1 h.2
    rw [decide_eq_true ⟨rfl, rfl⟩] at this; exact this
  have hS2 : ∀ W, Below w1.heap.size w1 W → Calls Try.prog 17 #[.agg #[.slice ra 1 rc, .slice na 5 nc], .agg #[.slice none 0 0, .slice none 0 0]] W fun e w' => e = .returned (.bool false) ∧ Below W.heap.size W w' := fun W hW => by
    have := same_any _ _ (.slice none 0 0) (.slice none 0 0) exR [] exN [] W (HR.out.kept hW (Nat.le_refl _)) (HN.out.kept hW (Nat.le_refl _)) ⟨by decide, none, 0, rfl, .inl rfl⟩ ⟨by decide, none, 0, rfl, .inl rfl⟩
    rw [decide_eq_false (by simp [exR])] at this; exact this
  have hTx : ∀ W, W.cell? ⟨b, 0, none⟩ = some (.string sRules) → W.cell? ⟨b, 1, none⟩ = some (.iface 74 (.agg #[.int .i64 10, .int .i64 0])) → Calls Try.prog 79 #[.pointer (some ⟨b, 0, none⟩)] W fun e w' => e = .returned (.string ⟨#[114, 117, 108, 101, 32, 114, 117, 108, 101, 115, 58, 32, 101, 114, 114, 111, 114, 32, 49, 48]⟩) ∧ Below W.heap.size W w' := fun W h0 h1 => gwithin_text b W h0 h1
  have HCk := Lib.hid hCk
  have HF4 := Lib.hid hF4
  have HF3 := Lib.hid hF3
  have HOw := Lib.hid hOw
  have HCl := Lib.hid hCl
  have HS1 := Lib.hid hS1
  have HS2 := Lib.hid hS2
  have HTx := Lib.hid hTx
  have me := gm_within b
  have ne := gn_within b
  have ee := ge_within
  obtain ⟨n0, hn0⟩ : ∃ n0, w1.heap.size = n0 := ⟨_, rfl⟩
  have hnw : n0 ≤ w1.heap.size := Nat.le_of_eq hn0.symm
  have HN0 := Lib.hid hn0
  have hS : (fun W : World => W.cell? ⟨G, 0, none⟩ = some (.slice ra 1 rc) ∧ W.cell? ⟨G, 1, none⟩ = some (.slice na 5 nc) ∧ W.cell? ⟨B, 4, none⟩ = some (.int .i64 3) ∧ W.cell? ⟨b, 0, none⟩ = some (.string sRules) ∧ W.cell? ⟨b, 1, none⟩ = some (.iface 74 (.agg #[.int .i64 10, .int .i64 0])) ∧ Below n0 w1 W) w4.drew := ⟨p0, p1, hd4, p2, p3, by rw [← hn0]; exact HW.out.drew⟩
  clear hCk hF4 hF3 hOw hCl hS1 hS2 hTx hn0 p0 p1 hd4 p2 p3 HW HBC HD HE b0 b1 hs2 HB0
  dsimp only at hS
  go_region_held3 (fun W => W.cell? ⟨G, 0, none⟩ = some (.slice ra 1 rc) ∧ W.cell? ⟨G, 1, none⟩ = some (.slice na 5 nc) ∧ W.cell? ⟨B, 4, none⟩ = some (.int .i64 3) ∧ W.cell? ⟨b, 0, none⟩ = some (.string sRules) ∧ W.cell? ⟨b, 1, none⟩ = some (.iface 74 (.agg #[.int .i64 10, .int .i64 0])) ∧ Below n0 w1 W) (first | exact hS)
    (first
      | (go_at_call 20; with_reducible refine (HCk.out _ (by rw [HN0.out]; exact hS.2.2.2.2.2)).mono ?_; rintro ev w5 ⟨rfl, hb⟩; replace hS := gawK hnw hb hS; clear hb)
      | (with_reducible refine (HTx.out _ hS.2.2.2.1 hS.2.2.2.2.1).mono ?_; rintro ev w5 ⟨rfl, hb⟩; replace hS := gawK hnw hb hS; clear hb)
      | (go_at_call 9; with_reducible refine (HF4.out _ (by rw [HN0.out]; exact hS.2.2.2.2.2)).mono ?_; rintro ev w5 ⟨rfl, hb⟩; replace hS := gawK hnw hb hS; clear hb)
      | (go_at_call 9; with_reducible refine (HF3.out _ (by rw [HN0.out]; exact hS.2.2.2.2.2)).mono ?_; rintro ev w5 ⟨rfl, hb⟩; replace hS := gawK hnw hb hS; clear hb)
      | (go_at_call 12; with_reducible refine (HOw.out _ (by rw [HN0.out]; exact hS.2.2.2.2.2)).mono ?_; rintro ev w5 ⟨rfl, hb⟩; replace hS := gawK hnw hb hS; clear hb)
      | (go_at_call 16; with_reducible refine (HCl.out _ (by rw [HN0.out]; exact hS.2.2.2.2.2)).mono ?_; rintro ev w5 ⟨rv, nv, rfl, hin, hb⟩; have HIN := Lib.hid hin; replace hS := gawK hnw hb hS; clear hb hin)
      | (go_at_call 17; with_reducible refine (HS1.out _ _ _ (by rw [HN0.out]; exact hS.2.2.2.2.2) HIN.out).mono ?_; rintro ev w5 ⟨rfl, hb⟩; replace hS := gawK hnw hb hS; clear hb)
      | (go_at_call 17; with_reducible refine (HS2.out _ (by rw [HN0.out]; exact hS.2.2.2.2.2)).mono ?_; rintro ev w5 ⟨rfl, hb⟩; replace hS := gawK hnw hb hS; clear hb))
  have HBF := Lib.hid hS.2.2.2.2.2
  clear hS
  go_wp2
  go_ret
  exact ⟨rfl, HB.out.trans ((by rw [HN0.out]; exact HBF.out : Below w1.heap.size w1 _).mono HB.out.size)⟩
end Go.Proofs.Ytbhejkjgebhpoaa
