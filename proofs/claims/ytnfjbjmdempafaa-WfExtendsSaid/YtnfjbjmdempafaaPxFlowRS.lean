/- The reference's Node at a sequence. -/
import Derived.Deep.Cut
import Derived.Test.YtnfjbjmdempafaaPxFlowRM
namespace Go.Proofs.Ytnfjbjmdempafaa
open Go.RowKit
set_option maxHeartbeats 8000000 in
set_option maxRecDepth 100000 in
theorem rnode_3 (rv nv v : Value) (rs : List PR) (ns : List PN) (l : List Fc) (i : Nat) (n : PN) (w : World) (hR : RulesIn w rv rs) (hN : NodesAt w nv ns) (hF : FactsAt w v l) (hn : ns[i]? = some n) (hI : NodeIn rs l.length n) (eo : n.op = 3) :
    Calls Try.prog 41 #[.agg #[rv, nv], .int .i64 (i : Int), v] w fun e w' => e = .returned (factV (nodeF rs n l)) ∧ Below w.heap.size w w' := by
  obtain ⟨-, na, nc, rfl, hna⟩ := id hN
  have hil := (List.getElem?_eq_some_iff.1 hn).1
  rcases hna with h0 | ⟨nb, no, rfl, hca⟩
  · rw [h0] at hil; exact absurd hil (Nat.not_lt_zero _)
  obtain ⟨kv, c0, c1, c2, c3, c4, c5, c6, hk, hkl⟩ := hca i n hn
  have lr := lt_of_cell c0
  have k1 : (i : Int) < (ns.length : Int) := by omega
  obtain ⟨ka, kc, rfl, hki⟩ := id hk
  rw [eo] at c0
  have hv : nodeF rs n l = seqF (n.kids.map (atF l)) := by unfold nodeF; rw [if_neg (by omega), if_neg (by omega), if_neg (by omega), if_pos eo]
  rw [hv]
  obtain ⟨va, vc, rfl⟩ := hF.slice
  obtain ⟨-, ra, rc, rfl, -⟩ := id hR
  have hkid := hI.kid
  unfold maxLen at hkl
  clear hR hN hca hk hv hn hI eo
  go_enter Try.func41, Try.ntmps41
  go_upto_region 3 with (fail)
  generalize hW : World.alloc (World.alloc (World.alloc (World.alloc _ _) _) _) _ = W
  have dB : Below w.heap.size w W := by rw [← hW]; exact four_new _ _ _ _ _
  have dG : Bl W w.heap.size 25 #[.slice ra rs.length rc, .slice (some ⟨nb, no, none⟩) ns.length nc] := by rw [← hW]; exact Bl.past (Bl.past (Bl.past (Bl.new w _ _)))
  have dR : Bl W (w.heap.size + 1) 37 #[.bool false, .bool false, .bool false] := by rw [← hW]; exact Bl.past (Bl.past (Bl.new' (by simp)))
  have dN : Bl W (w.heap.size + 1 + 1) 35 #[.int .i64 3, .slice ka n.kids.length kc, .int .i64 n.rule, .int .u64 n.s0, .int .u64 n.s1, .int .u64 n.s2, .int .u64 n.s3] := by rw [← hW]; exact Bl.past (Bl.new' (by simp))
  have dO : Bl W (w.heap.size + 1 + 1 + 1) 37 #[.bool false, .bool false, .bool false] := by rw [← hW]; exact Bl.new' (by simp)
  have lO := dO.lt
  have n0 : W.cell? ⟨w.heap.size + 1 + 1, 0, none⟩ = some (.int .i64 3) := dN.cell (o := 0) rfl
  have n1 : W.cell? ⟨w.heap.size + 1 + 1, 1, none⟩ = some (.slice ka n.kids.length kc) := dN.cell (o := 1) rfl
  have n2 : W.cell? ⟨w.heap.size + 1 + 1, 2, none⟩ = some (.int .i64 n.rule) := dN.cell (o := 2) rfl
  have DB := Lib.hid dB
  have DR := Lib.hid dR
  have DO := Lib.hid dO
  have HRN : Hid (RnAt w #[.int .i64 3, .slice ka n.kids.length kc, .int .i64 n.rule, .int .u64 n.s0, .int .u64 n.s1, .int .u64 n.s2, .int .u64 n.s3] fc0 W) := Lib.hid ⟨dB, dR, dN, dO⟩
  have o0 := dO.c0
  have o1 := dO.c1
  have o2 := dO.c2
  have oz := dO.free
  clear hW dB dG dR dN dO DB DR DO n2 c0 c1 c2 c3 c4 c5 c6 lr k1 hil
  go_wp2
  go_loopw [9, 10] (fun c d wr => ∃ (k : Nat) (s : Fc × Bool), k ≤ n.kids.length ∧ c = .bool s.2 ∧ d = .int .i64 (k : Int) ∧ RnAt w #[.int .i64 3, .slice ka n.kids.length kc, .int .i64 n.rule, .int .u64 n.s0, .int .u64 n.s1, .int .u64 n.s2, .int .u64 n.s3] s.1 wr ∧ sqK (atF l) n.kids k = s) (fun _ d _ => n.kids.length - (intOf d).toNat)
  case atStart => exact ⟨0, (⟨true, false, false⟩, true), Nat.zero_le _, rfl, rfl, HRN.out.p0 true, rfl⟩
  case round =>
    clear n0 n1 o0 o1 o2 oz lO
    obtain ⟨k, s, hk, rfl, rfl, hq, hs⟩ := hrel
    have n1 : wr.cell? ⟨w.heap.size + 1 + 1, 1, none⟩ = some (.slice ka n.kids.length kc) := hq.n.cell (o := 1) rfl
    by_cases hlt : k < n.kids.length
    · have k1 : (k : Int) < (n.kids.length : Int) := by omega
      obtain ⟨x, hx⟩ : ∃ x, n.kids[k]? = some x := ⟨_, List.getElem?_eq_getElem hlt⟩
      rcases hki with h0 | ⟨kb, ko, rfl, hkc⟩
      · rw [h0] at hlt; exact absurd hlt (Nat.not_lt_zero _)
      obtain ⟨xl, xu⟩ := hkid x (List.mem_of_getElem? hx)
      obtain ⟨y, rfl⟩ : ∃ y : Nat, x = y := ⟨x.toNat, by omega⟩
      obtain ⟨fb, fo, rfl, hfc⟩ := hF.open (by omega)
      obtain ⟨f, hf⟩ : ∃ f, l[y]? = some f := ⟨_, List.getElem?_eq_getElem (by omega)⟩
      have y1 : (y : Int) < (l.length : Int) := by omega
      have kx := hkc k _ hx
      have lk := lt_of_cell kx
      rw [← (bcell hq.lo).1 _ _ lk] at kx
      obtain ⟨f0, f1, f2⟩ := hfc y f hf
      have lf := lt_of_cell f0
      rw [← (bcell hq.lo).1 _ _ lf] at f0 f1 f2
      have hsk := sqK_succ (p := atF l) hx
      rw [hs, atF_some hf] at hsk
      have hok := sqK_ok (atF l) n.kids k
      rw [hs] at hok
      have HSK := Lib.hid hsk
      have HOK := Lib.hid hok
      have HKC := Lib.hid hkc
      have HFC := Lib.hid hfc
      have HKID := Lib.hid hkid
      have HQ := Lib.hid hq
      have o0 := hq.o.c0
      have o1 := hq.o.c1
      have o2 := hq.o.c2
      have oz := hq.o.free
      have lo := hq.o.lt
      obtain ⟨v0, hv0⟩ : ∃ v0, v0 = (s.1.nul && f.nul) := ⟨_, rfl⟩
      have HV0 := Lib.hid hv0
      clear hx hkc hfc hkid hsk hok hq hs hf hF hv0
      obtain ⟨⟨sn, se, sf⟩, sb⟩ := s
      cases sn <;>
      · go_upto_region 19 with (fail)
        generalize hW1 : World.alloc _ _ = W1
        have q1 : RnAt w #[.int .i64 3, .slice (some ⟨kb, ko, none⟩) n.kids.length kc, .int .i64 n.rule, .int .u64 n.s0, .int .u64 n.s1, .int .u64 n.s2, .int .u64 n.s3] ⟨v0, se, sf⟩ W1 := by rw [← hW1, HV0.out]; exact (HQ.out.p0 _).past
        have q2 : Bl W1 wr.heap.size 37 #[.bool f.nul, .bool f.eat, .bool f.fai] := by rw [← hW1]; exact Bl.new' (by simp)
        have hlo := HQ.out.o.lt
        clear hW1 o0 o1 o2 oz lo kx f0 f1 f2 n1 HQ
        generalize wr.heap.size = F at *
        have Q1 := Lib.hid q1
        have Q2 := Lib.hid q2
        clear q1 q2
        go_wp2
        go_loopw [12, 13] (fun c d wq => ∃ m : Nat, m ≤ k ∧ c = .bool (okK (atF l) n.kids m) ∧ d = .int .i64 (m : Int) ∧ Below W1.heap.size W1 wq) (fun _ d _ => k - (intOf d).toNat)
        case atStart => exact ⟨0, Nat.zero_le _, rfl, rfl, Below.refl _ _⟩
        case round =>
          obtain ⟨m, hm, rfl, rfl, hb⟩ := hrel
          have hqb := Q1.out.below hb
          by_cases hmk : m < k
          · have m1 : (m : Int) < (k : Int) := by omega
            have m2 : (m : Int) < (n.kids.length : Int) := by omega
            obtain ⟨x, hx⟩ : ∃ x, n.kids[m]? = some x := ⟨_, List.getElem?_eq_getElem (by omega)⟩
            obtain ⟨xl, xu⟩ := HKID.out x (List.mem_of_getElem? hx)
            obtain ⟨z, rfl⟩ : ∃ z : Nat, x = z := ⟨x.toNat, by omega⟩
            obtain ⟨g, hg⟩ : ∃ g, l[z]? = some g := ⟨_, List.getElem?_eq_getElem (by omega)⟩
            have z1 : (z : Int) < (l.length : Int) := by omega
            have kx := HKC.out m _ hx
            rw [← (bcell hqb.lo).1 _ _ lk] at kx
            obtain ⟨f0, f1, f2⟩ := HFC.out z g hg
            rw [← (bcell hqb.lo).1 _ _ lf] at f0 f1 f2
            have n1 : wr.cell? ⟨w.heap.size + 1 + 1, 1, none⟩ = some (.slice (some ⟨kb, ko, none⟩) n.kids.length kc) := hqb.n.cell (o := 1) rfl
            have hkk := okK_succ (p := atF l) hx
            rw [atF_some hg] at hkk
            have HKK := Lib.hid hkk
            have HR := Lib.hid (fun W => rok_any g W)
            unfold factV at HR
            have HB := Lib.hid hb
            clear hx hg hkk hb hqb
            cases hc : okK (atF l) n.kids m with
            | false =>
              rw [hc] at HKK
              go_wp2
              go_roundw
              case rel => exact ⟨m + 1, by omega, by rw [HKK.out]; rfl, by go_num, HB.out⟩
              case measure => simp [intOf]; omega
            | true =>
              rw [hc] at HKK
              go_wp2_with (go_at_call 57; (with_reducible refine (HR.out _).mono ?_); rintro e w5 ⟨rfl, hb⟩; have HB5 := Lib.hid (HB.out.trans (hb.mono HB.out.size)); clear hb)
              go_roundw
              case rel => exact ⟨m + 1, by omega, by rw [HKK.out]; rfl, by go_num, HB5.out⟩
              case measure => simp [intOf]; omega
          · obtain rfl : m = k := by omega
            have m1 : ¬ (m : Int) < (m : Int) := by omega
            rw [← HOK.out]
            have q8 := Q2.out.below hb
            have f0 := q8.c0
            have f1 := q8.c1
            have f2 := q8.c2
            have lf' := q8.lt
            have o0 := hqb.o.c0
            have o1 := hqb.o.c1
            have o2 := hqb.o.c2
            have oz := hqb.o.free
            have lo := hqb.o.lt
            have Q5 := Lib.hid hqb
            have HR := Lib.hid (fun W => rok_any f W)
            obtain ⟨fn, fe, ff⟩ := f
            unfold factV at HR
            obtain ⟨Y, hY⟩ : ∃ Y, Y = (se || fe) := ⟨_, rfl⟩
            have T5 := Lib.hid ((Q5.out.p2 (sf || (ff && sb))).p1 (se || fe))
            have HY := Lib.hid hY
            clear hY
            have hneq : F ≠ w.heap.size + 1 + 1 + 1 := by omega
            have Q8 := Lib.hid q8
            clear hb hqb q8 Q1 Q2 HKC HFC HKID HOK m1
            cases sf <;> cases ff <;> cases sb <;> cases se <;>
            · go_wp2_with (go_at_call 57; (with_reducible refine (HR.out _).mono ?_); rintro e w5 ⟨rfl, hb⟩; have q6 := (Q5.out.p2 _).below hb; have q9 := (Q8.out.off (c := w.heap.size + 1 + 1 + 1) (o := 2) hneq).below hb; have e0 := q9.c0; have e1 := q9.c1; have e2 := q9.c2; have p0 := q6.o.c0; have p1 := q6.o.c1; have p2 := q6.o.c2; have pz := q6.o.free; have lo5 := q6.o.lt; have Q6 := Lib.hid q6; clear hb q6 q9)
              refine ⟨⟨m + 1, _, by omega, ?_, ?_, ?_, HSK.out⟩, by simp [intOf]; omega⟩
              · rfl
              · go_num
              · first
                | (have := Q6.out.p1 Y; rw [HY.out, HV0.out] at this; exact this)
                | (have := T5.out; rw [HV0.out] at this; exact this)
    · obtain rfl : k = n.kids.length := by omega
      have k1 : ¬ (n.kids.length : Int) < (n.kids.length : Int) := by omega
      have hse : seqF (n.kids.map (atF l)) = seqE s := by rw [← hs]; unfold sqK seqF; rw [List.take_length]
      have HSE := Lib.hid hse
      have o0 := hq.o.c0
      have o1 := hq.o.c1
      have o2 := hq.o.c2
      have oz := hq.o.free
      have lo := hq.o.lt
      have q0 := hq.r.c0
      have q1 := hq.r.c1
      have q2 := hq.r.c2
      have qz := hq.r.free
      obtain ⟨⟨sn, se, sf⟩, sb⟩ := s
      have HQ := Lib.hid hq
      clear hq hs hse hF hki hkid
      cases se with
      | false =>
        go_wp2
        rw [HSE.out, show seqE (⟨sn, false, sf⟩, sb) = ⟨sn, false, sf⟩ from rfl]
        have d := (((HQ.out.r.off (c := w.heap.size + 1 + 1 + 1) (o := 1) (v := .bool false) (Nat.ne_of_lt (by omega))).p0 (.bool sn)).p1 (.bool false)).p2 (.bool sf)
        have r0 := d.c0
        have r1 := d.c1
        have r2 := d.c2
        exact bodyPost_ret (v := factV ⟨sn, false, sf⟩) (by simp [results, Try.results41, go_sem, factV, r0, r1, r2]) rfl ⟨rfl, below_p3 (bl_put HQ.out.lo (by omega)) (Nat.le_succ _) _ _ _⟩
      | true =>
        go_wp2
        rw [HSE.out, show seqE (⟨sn, true, sf⟩, sb) = ⟨sn, sb, sf⟩ from rfl]
        have d := (((HQ.out.r.off (c := w.heap.size + 1 + 1 + 1) (o := 1) (v := .bool sb) (Nat.ne_of_lt (by omega))).p0 (.bool sn)).p1 (.bool sb)).p2 (.bool sf)
        have r0 := d.c0
        have r1 := d.c1
        have r2 := d.c2
        exact bodyPost_ret (v := factV ⟨sn, sb, sf⟩) (by simp [results, Try.results41, go_sem, factV, r0, r1, r2]) rfl ⟨rfl, below_p3 (bl_put HQ.out.lo (by omega)) (Nat.le_succ _) _ _ _⟩
end Go.Proofs.Ytnfjbjmdempafaa
