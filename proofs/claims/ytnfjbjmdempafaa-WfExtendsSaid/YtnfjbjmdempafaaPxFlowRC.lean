/- The reference's Node at a choice. -/
import Derived.Deep.Cut
import Derived.Test.YtnfjbjmdempafaaPxFlowRM
namespace Go.Proofs.Ytnfjbjmdempafaa
open Go.RowKit
set_option maxHeartbeats 8000000 in
set_option maxRecDepth 100000 in
theorem rnode_4 (rv nv v : Value) (rs : List PR) (ns : List PN) (l : List Fc) (i : Nat) (n : PN) (w : World) (hR : RulesIn w rv rs) (hN : NodesAt w nv ns) (hF : FactsAt w v l) (hn : ns[i]? = some n) (hI : NodeIn rs l.length n) (eo : n.op = 4) :
    Calls Try.prog 41 #[.agg #[rv, nv], .int .i64 (i : Int), v] w fun e w' => e = .returned (factV (nodeF rs n l)) ∧ Below w.heap.size w w' := by
  obtain ⟨-, na, nc, rfl, hna⟩ := id hN
  have hil := (List.getElem?_eq_some_iff.1 hn).1
  rcases hna with h0 | ⟨nb, no, rfl, hca⟩
  · rw [h0] at hil; exact absurd hil (Nat.not_lt_zero _)
  obtain ⟨kv, c0, c1, c2, c3, c4, c5, c6, hk, hkl⟩ := hca i n hn
  have lr := lt_of_cell c0
  have k1 : (i : Int) < (ns.length : Int) := by omega
  obtain ⟨ka, kc, rfl, hki⟩ := id hk
  rw [eo] at c0
  have hv : nodeF rs n l = choF (n.kids.map (atF l)) := by unfold nodeF; rw [if_neg (by omega), if_neg (by omega), if_neg (by omega), if_neg (by omega), if_pos eo]
  rw [hv]
  obtain ⟨va, vc, rfl⟩ := hF.slice
  obtain ⟨-, ra, rc, rfl, -⟩ := id hR
  have hkid := hI.kid
  unfold maxLen at hkl
  clear hR hN hca hk hv hn hI eo
  go_enter Try.func41, Try.ntmps41
  go_upto_region 3 with (fail)
  generalize hW : World.alloc (World.alloc (World.alloc (World.alloc _ _) _) _) _ = W
  have dB : Below w.heap.size w W := by rw [← hW]; exact four_new _ _ _ _ _
  have dG : Bl W w.heap.size 25 #[.slice ra rs.length rc, .slice (some ⟨nb, no, none⟩) ns.length nc] := by rw [← hW]; exact Bl.past (Bl.past (Bl.past (Bl.new w _ _)))
  have dR : Bl W (w.heap.size + 1) 37 #[.bool false, .bool false, .bool false] := by rw [← hW]; exact Bl.past (Bl.past (Bl.new' (by simp)))
  have dN : Bl W (w.heap.size + 1 + 1) 35 #[.int .i64 4, .slice ka n.kids.length kc, .int .i64 n.rule, .int .u64 n.s0, .int .u64 n.s1, .int .u64 n.s2, .int .u64 n.s3] := by rw [← hW]; exact Bl.past (Bl.new' (by simp))
  have dO : Bl W (w.heap.size + 1 + 1 + 1) 37 #[.bool false, .bool false, .bool false] := by rw [← hW]; exact Bl.new' (by simp)
  have lO := dO.lt
  have n0 : W.cell? ⟨w.heap.size + 1 + 1, 0, none⟩ = some (.int .i64 4) := dN.cell (o := 0) rfl
  have n1 : W.cell? ⟨w.heap.size + 1 + 1, 1, none⟩ = some (.slice ka n.kids.length kc) := dN.cell (o := 1) rfl
  have n2 : W.cell? ⟨w.heap.size + 1 + 1, 2, none⟩ = some (.int .i64 n.rule) := dN.cell (o := 2) rfl
  have DB := Lib.hid dB
  have DR := Lib.hid dR
  have DO := Lib.hid dO
  have HRN : Hid (RnAt w #[.int .i64 4, .slice ka n.kids.length kc, .int .i64 n.rule, .int .u64 n.s0, .int .u64 n.s1, .int .u64 n.s2, .int .u64 n.s3] fc0 W) := Lib.hid ⟨dB, dR, dN, dO⟩
  have o0 := dO.c0
  have o1 := dO.c1
  have o2 := dO.c2
  have oz := dO.free
  clear hW dB dG dR dN dO DB DR DO n2 c0 c1 c2 c3 c4 c5 c6 lr k1 hil
  go_wp2
  go_loopw [14] (fun d wr => ∃ (k : Nat) (s : Fc), k ≤ n.kids.length ∧ d = .int .i64 (k : Int) ∧ RnAt w #[.int .i64 4, .slice ka n.kids.length kc, .int .i64 n.rule, .int .u64 n.s0, .int .u64 n.s1, .int .u64 n.s2, .int .u64 n.s3] s wr ∧ chK (atF l) n.kids k = s) (fun d _ => n.kids.length - (intOf d).toNat)
  case atStart => exact ⟨0, ⟨false, false, true⟩, Nat.zero_le _, rfl, HRN.out.p2 true, rfl⟩
  case round =>
    clear n0 n1 o0 o1 o2 oz lO
    obtain ⟨k, s, hk, rfl, hq, hs⟩ := hrel
    have n1 : wr.cell? ⟨w.heap.size + 1 + 1, 1, none⟩ = some (.slice ka n.kids.length kc) := hq.n.cell (o := 1) rfl
    by_cases hlt : k < n.kids.length
    · have k1 : (k : Int) < (n.kids.length : Int) := by omega
      obtain ⟨x, hx⟩ : ∃ x, n.kids[k]? = some x := ⟨_, List.getElem?_eq_getElem hlt⟩
      rcases hki with h0 | ⟨kb, ko, rfl, hkc⟩
      · rw [h0] at hlt; exact absurd hlt (Nat.not_lt_zero _)
      obtain ⟨xl, xu⟩ := hkid x (List.mem_of_getElem? hx)
      obtain ⟨y, rfl⟩ : ∃ y : Nat, x = y := ⟨x.toNat, by omega⟩
      obtain ⟨fb, fo, rfl, hfc⟩ := hF.open (by omega)
      obtain ⟨f, hf⟩ : ∃ f, l[y]? = some f := ⟨_, List.getElem?_eq_getElem (by omega)⟩
      have y1 : (y : Int) < (l.length : Int) := by omega
      have kx := hkc k _ hx
      have lk := lt_of_cell kx
      rw [← (bcell hq.lo).1 _ _ lk] at kx
      obtain ⟨f0, f1, f2⟩ := hfc y f hf
      have lf := lt_of_cell f0
      rw [← (bcell hq.lo).1 _ _ lf] at f0 f1 f2
      have hsk := chK_succ (p := atF l) hx
      rw [hs, atF_some hf] at hsk
      have hok := chK_fai (atF l) n.kids k
      rw [hs] at hok
      have HSK := Lib.hid hsk
      have HOK := Lib.hid hok
      have HKC := Lib.hid hkc
      have HFC := Lib.hid hfc
      have HKID := Lib.hid hkid
      have hlo := hq.o.lt
      have q2 : Bl (wr.alloc (.cells #[.bool f.nul, .bool f.eat, .bool f.fai] 37)) wr.heap.size 37 #[.bool f.nul, .bool f.eat, .bool f.fai] := Bl.new wr _ _
      have q1 := hq.past (o := .cells #[.bool f.nul, .bool f.eat, .bool f.fai] 37)
      clear hx hkc hfc hkid hsk hok hq hs hf hF
      go_upto_region 34 with (fail)
      generalize wr.alloc _ = W1 at *
      clear kx f0 f1 f2 n1
      generalize wr.heap.size = F at *
      have Q1 := Lib.hid q1
      have Q2 := Lib.hid q2
      clear q1 q2
      go_wp2
      go_loopw [16, 17] (fun c d wq => ∃ m : Nat, m ≤ k ∧ c = .bool (faK (atF l) n.kids m) ∧ d = .int .i64 (m : Int) ∧ Below W1.heap.size W1 wq) (fun _ d _ => k - (intOf d).toNat)
      case atStart => exact ⟨0, Nat.zero_le _, rfl, rfl, Below.refl _ _⟩
      case round =>
        obtain ⟨m, hm, rfl, rfl, hb⟩ := hrel
        have hqb := Q1.out.below hb
        by_cases hmk : m < k
        · have m1 : (m : Int) < (k : Int) := by omega
          have m2 : (m : Int) < (n.kids.length : Int) := by omega
          obtain ⟨x, hx⟩ : ∃ x, n.kids[m]? = some x := ⟨_, List.getElem?_eq_getElem (by omega)⟩
          obtain ⟨xl, xu⟩ := HKID.out x (List.mem_of_getElem? hx)
          obtain ⟨z, rfl⟩ : ∃ z : Nat, x = z := ⟨x.toNat, by omega⟩
          obtain ⟨g, hg⟩ : ∃ g, l[z]? = some g := ⟨_, List.getElem?_eq_getElem (by omega)⟩
          have z1 : (z : Int) < (l.length : Int) := by omega
          have kx := HKC.out m _ hx
          rw [← (bcell hqb.lo).1 _ _ lk] at kx
          obtain ⟨f0, f1, f2⟩ := HFC.out z g hg
          rw [← (bcell hqb.lo).1 _ _ lf] at f0 f1 f2
          have n1 : wr.cell? ⟨w.heap.size + 1 + 1, 1, none⟩ = some (.slice (some ⟨kb, ko, none⟩) n.kids.length kc) := hqb.n.cell (o := 1) rfl
          have hkk := faK_succ (p := atF l) hx
          rw [atF_some hg] at hkk
          have HKK := Lib.hid hkk
          have HB := Lib.hid hb
          clear hx hg hkk hb hqb
          cases hc : faK (atF l) n.kids m <;>
          · rw [hc] at HKK
            go_wp2
            go_roundw
            case rel => exact ⟨m + 1, by omega, by rw [HKK.out]; rfl, by go_num, HB.out⟩
            case measure => simp [intOf]; omega
        · obtain rfl : m = k := by omega
          have m1 : ¬ (m : Int) < (m : Int) := by omega
          rw [← HOK.out]
          have q8 := Q2.out.below hb
          have f0 := q8.c0
          have f1 := q8.c1
          have f2 := q8.c2
          have lf' := q8.lt
          have o0 := hqb.o.c0
          have o1 := hqb.o.c1
          have o2 := hqb.o.c2
          have oz := hqb.o.free
          have lo := hqb.o.lt
          obtain ⟨sn, se, sf⟩ := s
          obtain ⟨fn, fe, ff⟩ := f
          have T5 := Lib.hid (((hqb.p0 (sn || (fn && sf))).p1 (se || (fe && sf))).p2 (sf && ff))
          have hneq : F ≠ w.heap.size + 1 + 1 + 1 := by omega
          clear hb hqb q8 Q1 Q2 HKC HFC HKID HOK m1
          cases sn <;> cases fn <;> cases se <;> cases fe <;> cases sf <;>
          · go_wp2
            refine ⟨⟨m + 1, _, by omega, ?_, ?_, HSK.out⟩, by simp [intOf]; omega⟩
            · go_num
            · exact T5.out
    · obtain rfl : k = n.kids.length := by omega
      have k1 : ¬ (n.kids.length : Int) < (n.kids.length : Int) := by omega
      have hse : choF (n.kids.map (atF l)) = s := by rw [← hs]; unfold chK choF; rw [List.take_length]
      have HSE := Lib.hid hse
      have o0 := hq.o.c0
      have o1 := hq.o.c1
      have o2 := hq.o.c2
      have oz := hq.o.free
      have lo := hq.o.lt
      have q0 := hq.r.c0
      have q1 := hq.r.c1
      have q2 := hq.r.c2
      have qz := hq.r.free
      obtain ⟨sn, se, sf⟩ := s
      have HQ := Lib.hid hq
      clear hq hs hse hF hki hkid
      go_wp2
      rw [HSE.out]
      have d := ((HQ.out.r.p0 (.bool sn)).p1 (.bool se)).p2 (.bool sf)
      have r0 := d.c0
      have r1 := d.c1
      have r2 := d.c2
      exact bodyPost_ret (v := factV ⟨sn, se, sf⟩) (by simp [results, Try.results41, go_sem, factV, r0, r1, r2]) rfl ⟨rfl, below_p3 HQ.out.lo (Nat.le_succ _) _ _ _⟩
end Go.Proofs.Ytnfjbjmdempafaa
