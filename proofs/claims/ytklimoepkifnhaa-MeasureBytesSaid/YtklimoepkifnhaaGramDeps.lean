/- gram.Depths on a grammar whose kids come before their nodes. -/
import Derived.Test.YtklimoepkifnhaaGramFirst
import Derived.RegionTactic
import Derived.Deep.OwnRows
import Derived.ChangeAlike
namespace Go.Proofs.Ytklimoepkifnhaa
open Go.RowKit
/-- Block B holds the numbers f, of n. -/
def NAt (f : Nat → Nat) (n B : Nat) (w : World) : Prop := ∀ j, j < n → w.cell? ⟨B, j, none⟩ = some (.int .i64 (f j : Int)) ∧ w.frozen? ⟨B, j, none⟩ = false
def updN (f : Nat → Nat) (i x : Nat) : Nat → Nat := fun j => if j = i then x else f j
theorem NAt.put {f : Nat → Nat} {n B i x : Nat} {w : World} (h : NAt f n B w) : NAt (updN f i x) n B (w.setCell ⟨B, i, none⟩ (.int .i64 (x : Int))) := fun j hj => by
  refine ⟨?_, by rw [World.frozen?_setCell]; exact (h j hj).2⟩
  unfold updN
  by_cases e : j = i
  · subst e; rw [World.cell?_setCell_same' _ _ _ (by rw [(h _ hj).1]; rfl)]; simp
  · rw [World.cell?_setCell_other _ _ _ _ (by intro hh; injection hh with _ h2; exact e h2.symm), (h j hj).1]; simp [e]
theorem NAt.put' {f : Nat → Nat} {n B i x : Nat} {y : Int} {w : World} (h : NAt f n B w) (hy : y = x) : NAt (updN f i x) n B (w.setCell ⟨B, i, none⟩ (.int .i64 y)) := by subst hy; exact h.put
theorem NAt.drew {f : Nat → Nat} {n B : Nat} {w : World} (h : NAt f n B w) : NAt f n B w.drew := h
theorem NAt.below {f : Nat → Nat} {n B k : Nat} {w w' : World} (h : NAt f n B w) (hb : Below k w w') (hB : B < k) : NAt f n B w' := fun j hj => by
  have hc := bcell hb
  exact ⟨by rw [hc.1 _ _ hB]; exact (h j hj).1, by rw [hc.2 _ _ hB]; exact (h j hj).2⟩
theorem NAt.congr {f g : Nat → Nat} {n B : Nat} {w : World} (h : NAt f n B w) (e : ∀ j, j < n → f j = g j) : NAt g n B w := fun j hj => by rw [← e j hj]; exact h j hj
theorem IntsAt.at {w : World} {a : Option Addr} {n cap : Nat} {l : List Int} {i : Nat} {x : Int} (h : IntsAt w (.slice a n cap) l) (hx : l[i]? = some x) : ∃ b off, a = some ⟨b, off, none⟩ ∧ w.cell? ⟨b, off + i, none⟩ = some (.int .i64 x) := by
  obtain ⟨a', cap', e, h⟩ := h
  injection e with e1 e2 e3
  subst e1
  rcases h with h | ⟨b, off, rfl, hc⟩
  · rw [h] at hx; simp at hx
  · exact ⟨b, off, rfl, hc i x hx⟩
theorem infoInt : (Try.prog.info? 3).map (fun i => (i.zero, i.size, i.bytes)) = some (some (.int .i64 0), 1, 8) := by kernel_rfl
theorem NAt.made (w : World) (n : Nat) (t : TypeId) : NAt (fun _ => 0) n w.heap.size (w.alloc (.cells (madeCells #[.int .i64 0] n) t)) := fun j hj => by
  have hb : (w.alloc (.cells (madeCells #[.int .i64 0] n) t)).heap[w.heap.size]? = some (.cells (madeCells #[.int .i64 0] n) t) := heap_alloc_new w _
  refine ⟨?_, by simp⟩
  rw [Lib.cell_of_heap hb]
  simp [madeCells, hj, Nat.mod_one]
set_option maxHeartbeats 2000000 in
set_option maxRecDepth 100000 in
theorem depths_any (ra : Option Addr) (rn rc : Nat) (nv : Value) (ns : List PN) (w : World) (hN : NodesAt w nv ns) (hs : ns.length ≤ 1000000) (hK : KidsBelow ns) :
    Calls Try.prog 26 #[.agg #[.slice ra rn rc, nv]] w fun e w' => (∃ B cap, e = .returned (.slice (some ⟨B, 0, none⟩) ns.length cap) ∧ w.heap.size ≤ B ∧ B < w'.heap.size ∧ NAt (dpL ns) ns.length B w') ∧ Below w.heap.size w w' := by
  obtain ⟨hl, a, ca, rfl, ha⟩ := hN
  have hmk := fun w => run_make_row' (P := Try.prog) 32 3 (.int .i64 0) 8 Try.underlying32 infoInt rfl .i64 .i64 ns.length (by omega) (by omega) w
  go_enter Try.func26, Try.ntmps26
  go_wp2
  have hD : NAt (fun _ => 0) ns.length (w.heap.size + 1) ((w.alloc (.cells #[.slice ra rn rc, .slice a ns.length ca] 25)).alloc (.cells (madeCells #[.int .i64 0] ns.length) 3)) := by
    have := NAt.made (w.alloc (.cells #[.slice ra rn rc, .slice a ns.length ca] 25)) ns.length 3
    rw [World.size_alloc] at this
    exact this
  obtain ⟨W, hW⟩ : ∃ W, ((w.alloc (.cells #[.slice ra rn rc, .slice a ns.length ca] 25)).alloc (.cells (madeCells #[.int .i64 0] ns.length) 3)) = W := ⟨_, rfl⟩
  have hb0 : Below w.heap.size w W := by rw [← hW]; exact two_new w _ _
  have hz0 : w.heap.size + 1 < W.heap.size := by rw [← hW]; simp
  rw [hW] at hD ⊢
  have HB0 := Lib.hid hb0
  have HD0 := Lib.hid hD
  clear hW hb0 hD hmk
  go_loopw [15] (fun c wr => ∃ (i : Nat), i ≤ ns.length ∧ c = .int .i64 i ∧ Below w.heap.size w wr ∧ w.heap.size + 1 < wr.heap.size ∧ NAt (fun j => if j < i then dpL ns j else 0) ns.length (w.heap.size + 1) wr) (fun c _ => ns.length - (intOf c).toNat)
  case atStart => exact ⟨0, Nat.zero_le _, rfl, HB0.out, hz0, HD0.out⟩
  case round =>
    obtain ⟨i, hi, rfl, hbw, hzw, hnat⟩ := hrel
    have HW := Lib.hid hbw
    have HD := Lib.hid hnat
    have hsz := hbw.size
    by_cases hlt : i < ns.length
    · obtain ⟨n, hn⟩ : ∃ n, ns[i]? = some n := ⟨_, List.getElem?_eq_getElem hlt⟩
      rcases ha with h0 | ⟨nb, no, rfl, hca⟩
      · rw [h0] at hlt; exact absurd hlt (Nat.not_lt_zero _)
      have hNi := hca i n hn
      obtain ⟨kv, c0, c1, c2, c3, c4, c5, c6, ci, cl⟩ := hNi.kept hbw (Nat.le_refl _)
      obtain ⟨kv', -, g1, -, -, -, -, -, gi, -⟩ := hNi
      have ekv : kv' = kv := by
        have := (bcell hbw).1 nb (no + i * 7 + 1) (lt_of_cell g1)
        rw [c1, g1] at this
        exact (Option.some.inj this).symm
      subst ekv
      have GI := Lib.hid gi
      obtain ⟨ka, kc, rfl, -⟩ := ci
      have lb := lt_of_cell c0
      have k1 : (i : Int) < (ns.length : Int) := by omega
      have HK := Lib.hid (hK i n hn)
      have HE := Lib.hid (dpL_eq hK hn)
      unfold maxLen at cl
      clear hca hn hbw hnat gi g1
      go_wp2
      obtain ⟨W1, hW1⟩ : ∃ W1, (wr.alloc (.cells #[.int .i64 n.op, .slice ka n.kids.length kc, .int .i64 n.rule, .int .u64 n.s0, .int .u64 n.s1, .int .u64 n.s2, .int .u64 n.s3] 37)) = W1 := ⟨_, rfl⟩
      have hb1 : Below w.heap.size w W1 := by rw [← hW1]; exact HW.out.alloc hsz _
      have hz1 : w.heap.size + 1 < W1.heap.size := by rw [← hW1]; simp; omega
      have hd1 : NAt (updN (fun j => if j < i then dpL ns j else 0) i 0) ns.length (w.heap.size + 1) W1 := by
        rw [← hW1]
        refine (HD.out.below (one_new wr _) hzw).congr (fun j _ => ?_)
        unfold updN
        by_cases e : j = i
        · subst e; simp
        · simp [e]
      rw [hW1]
      have HB1 := Lib.hid hb1
      have HD1 := Lib.hid hd1
      clear hW1 hb1 hd1 c0 c1 c2 c3 c4 c5 c6
      go_loopw [23] (fun c wq => ∃ (t : Nat), t ≤ n.kids.length ∧ c = .int .i64 t ∧ Below w.heap.size w wq ∧ w.heap.size + 1 < wq.heap.size ∧ NAt (updN (fun j => if j < i then dpL ns j else 0) i ((n.kids.take t).foldl (fun m k => max m ((depsL ns).getD k.toNat 0)) 0)) ns.length (w.heap.size + 1) wq) (fun c _ => n.kids.length - (intOf c).toNat)
      case atStart => exact ⟨0, Nat.zero_le _, rfl, HB1.out, hz1, HD1.out⟩
      case round =>
        obtain ⟨t, ht, rfl, hbq, hzq, hdq⟩ := hrel
        by_cases htl : t < n.kids.length
        · obtain ⟨k, hk⟩ : ∃ k, n.kids[t]? = some k := ⟨_, List.getElem?_eq_getElem htl⟩
          obtain ⟨kb, ko, rfl, ck⟩ := (GI.out.kept hbq (Nat.le_refl _)).at hk
          have hkb := HK.out k (List.mem_of_getElem? hk)
          obtain ⟨m, rfl⟩ : ∃ m : Nat, k = m := ⟨k.toNat, by omega⟩
          have hts := take_snoc' n.kids t _ hk
          have hd2 := hdq i hlt
          have hd3 := hdq m (by omega)
          have e2 : updN (fun j => if j < i then dpL ns j else 0) i ((n.kids.take t).foldl (fun m k => max m ((depsL ns).getD k.toNat 0)) 0) i = (n.kids.take t).foldl (fun m k => max m ((depsL ns).getD k.toNat 0)) 0 := if_pos rfl
          have e3 : updN (fun j => if j < i then dpL ns j else 0) i ((n.kids.take t).foldl (fun m k => max m ((depsL ns).getD k.toNat 0)) 0) m = dpL ns m := by
            unfold updN; rw [if_neg (by omega)]; exact if_pos (by omega)
          rw [e2] at hd2
          rw [e3] at hd3
          have HT : Hid ((n.kids.take (t + 1)).foldl (fun m k => max m ((depsL ns).getD k.toNat 0)) 0 = max ((n.kids.take t).foldl (fun m k => max m ((depsL ns).getD k.toNat 0)) 0) (dpL ns m)) := Lib.hid (by rw [hts, List.foldl_append]; rfl)
          generalize (n.kids.take t).foldl (fun m k => max m ((depsL ns).getD k.toNat 0)) 0 = M at *
          generalize dpL ns m = D at *
          obtain ⟨c8, f8⟩ := hd2
          obtain ⟨c9, f9⟩ := hd3
          have k2 : (m : Int) < (i : Int) := by omega
          have k3 : (t : Int) < (n.kids.length : Int) := by omega
          have HBQ := Lib.hid hbq
          have HDQ := Lib.hid hdq
          clear hbq hdq hts hk hkb e2 e3
          go_wp2
          go_region
          all_goals
            go_wp2
            go_roundw
            case rel => exact ⟨t + 1, by omega, by go_num, (HBQ.out.setCell (Nat.le_succ w.heap.size) _).drew, by simpa using hzq, by
              rw [HT.out]
              refine NAt.drew ((HDQ.out.put' (x := max M D) (by split <;> omega)).congr (fun j _ => ?_))
              unfold updN
              by_cases e : j = i
              · simp [e]
              · simp [e]⟩
            case measure => simp [intOf]; omega
        · have htk : t = n.kids.length := by omega
          subst htk
          rw [List.take_length] at hdq
          have hd2 := hdq i hlt
          have e2 : updN (fun j => if j < i then dpL ns j else 0) i (n.kids.foldl (fun m k => max m ((depsL ns).getD k.toNat 0)) 0) i = n.kids.foldl (fun m k => max m ((depsL ns).getD k.toNat 0)) 0 := if_pos rfl
          rw [e2] at hd2
          have hle := dpL_le hK (i + 1) i (Nat.lt_succ_self _) hlt
          have he := HE.out
          unfold maxK at he
          generalize n.kids.foldl (fun m k => max m ((depsL ns).getD k.toNat 0)) 0 = M at *
          have hM : (M : Int) + 1 ≤ 1000001 := by omega
          have hM0 : 0 ≤ (M : Int) := by omega
          obtain ⟨c8, f8⟩ := hd2
          have HBQ := Lib.hid hbq
          have HDQ := Lib.hid hdq
          have HE2 := Lib.hid he
          clear hbq hdq he hle e2 HE
          go_wp2
          refine ⟨⟨i + 1, by omega, by go_num, HBQ.out.setCell (Nat.le_succ w.heap.size) _, by simpa using hzq, ?_⟩, by simp [intOf]; omega⟩
          refine (HDQ.out.put' (x := M + 1) (by omega)).congr (fun j _ => ?_)
          unfold updN
          by_cases e : j = i
          · subst e; rw [if_pos rfl, if_pos (Nat.lt_succ_self _), HE2.out]
          · rw [if_neg e, if_neg e]
            by_cases e2 : j < i
            · simp [e2, Nat.lt_succ_of_lt e2]
            · simp [e2, show ¬ j < i + 1 by omega]
    · have hin : i = ns.length := by omega
      subst hin
      clear hnat hbw
      go_wp2
      go_ret
      exact ⟨⟨_, _, rfl, by omega, hzw, HD.out.congr (fun j hj => if_pos hj)⟩, HW.out⟩
end Go.Proofs.Ytklimoepkifnhaa
