/- The walks of the laws EscapeUnquotes and EscapeLiterals. -/
import Derived.Test.YtlcaclemogamdaaAwake3
import Derived.Test.YtlcaclemogamdaaEscInverse
namespace Go.Proofs.Ytlcaclemogamdaa
open Go.RowKit
theorem form_head (c : Nat) : ∃ d t, formL c false = d :: t ∧ d ≠ 39 := by
  by_cases h : c = 39
  · subst h; exact ⟨92, [39], rfl, by decide⟩
  · unfold formL
    split
    · exact ⟨_, _, rfl, by decide⟩
    split
    · exact ⟨_, _, rfl, by decide⟩
    split
    · exact ⟨_, _, rfl, by decide⟩
    split
    · exact ⟨_, _, rfl, by decide⟩
    split
    · exact ⟨_, _, rfl, by decide⟩
    · exact ⟨_, _, rfl, h⟩
/-- Reading the forms of bytes leads back to them. -/
theorem unq_forms : ∀ l : List Nat, (∀ x, x ∈ l → x < 256) → unq 39 (formsL l) = some l
  | [], _ => unq_nil 39
  | c :: l, h => by
    have e : formsL (c :: l) = formL c false ++ formsL l := rfl
    obtain ⟨d, t, hf, hd⟩ := form_head c
    have hr := rdl_form c false (h c (List.mem_cons_self ..)) (formsL l)
    rw [e]
    have hdrop : (formL c false ++ formsL l).drop (formL c false).length = formsL l := List.drop_left
    rw [hf] at hr hdrop ⊢
    rw [List.cons_append] at hr hdrop ⊢
    rw [unq_step hr hd, hdrop, unq_forms l (fun x hx => h x (List.mem_cons_of_mem _ hx))]
    rfl
theorem unquote_lit (l : List Nat) (h : ∀ x, x ∈ l → x < 256) : unquoteL (litL l) = some l := by
  have hlen : (litL l).length = (formsL l).length + 2 := by unfold litL; simp
  have hhead : (litL l).headD 0 = 39 := rfl
  have hlast : (litL l).getLast? = some 39 := by unfold litL; rw [List.getLast?_append]; rfl
  have hmid : ((litL l).drop 1).take ((litL l).length - 2) = formsL l := by
    rw [hlen]
    show (formsL l ++ [39]).take _ = _
    exact List.take_left' (by omega)
  unfold unquoteL
  rw [hhead, if_pos ⟨by omega, Or.inl rfl, hlast⟩, hmid]
  exact unq_forms l h
theorem unquoteL_lt (s : ByteArray) (l : List Nat) (h : unquoteL (bts s) = some l) : ∀ x, x ∈ l → x < 256 := by
  have key : ∀ (m : Nat) (q : Nat) (t : List Nat), t.length ≤ m → (∀ x, x ∈ t → x < 256) → ∀ r, unq q t = some r → ∀ x, x ∈ r → x < 256 := by
    intro m
    induction m with
    | zero =>
      intro q t ht _ r hr x hx
      obtain rfl : t = [] := List.eq_nil_of_length_eq_zero (by omega)
      rw [unq_nil] at hr
      cases hr; cases hx
    | succ m ih =>
      intro q t ht hl r hr x hx
      cases t with
      | nil => rw [unq_nil] at hr; cases hr; cases hx
      | cons d t =>
        by_cases hd : d = q
        · subst hd; rw [unq_quote] at hr; cases hr
        · cases hc : rdl (d :: t) with
          | none => rw [unq_bad hc] at hr; cases hr
          | some y =>
            obtain ⟨c, n⟩ := y
            rw [unq_step hc hd] at hr
            obtain ⟨r', hr', rfl⟩ := Option.map_eq_some_iff.1 hr
            have hn := rdl_len _ _ _ hc
            rcases List.mem_cons.1 hx with rfl | hx
            · exact rdl_lt _ hl _ _ hc
            · exact ih q _ (by rw [List.length_drop]; omega) (fun x hx => hl x (List.mem_of_mem_drop hx)) r' hr' x hx
  unfold unquoteL at h
  split at h
  · exact key _ _ _ (Nat.le_refl _) (fun x hx => bts_lt s x (List.mem_of_mem_drop (List.mem_of_mem_take hx))) l h
  · cases h
set_option maxHeartbeats 2000000 in
theorem unquotes_any (s : ByteArray) (w : World) (hs : s.size ≤ 9223372036854775807) :
    Calls Try.prog 6 #[.string s] w fun e w' => e = .returned (.bool true) ∧ Below w.heap.size w w' := by
  have hA := awake_at
  unfold AwakeAt at hA
  have HA := Lib.hid hA
  clear hA
  have hB : Below w.heap.size w w := Below.refl _ _
  by_cases hz : (s.size : Int) ≤ 500
  · have hz' : s.size ≤ 1000000 := by omega
    cases hr : unquoteL (bts s) with
    | none =>
      have HR := Lib.hid hr
      clear hr
      go_enter Try.func6, Try.ntmps6
      go_wp2_with (first
        | (go_at_call 8; (with_reducible refine (HA.out _).mono ?_); rintro e w1 ⟨rfl, hb⟩; replace hB := hB.trans (hb.mono hB.size); clear hb)
        | (go_at_call 14; (with_reducible refine (eunq_none s _ hz' HR.out).mono ?_); rintro e w2 ⟨v, rfl, hv, hb⟩; replace hB := hB.trans (hb.mono hB.size); clear hb)
        | (go_at_call 16; (with_reducible refine (runq_none s _ hz' HR.out).mono ?_); rintro e w3 ⟨u, rfl, hu, hb⟩; have hcv := conv_row (hv.below hb (Nat.le_refl _)) (fun _ h => (by cases h)); have hcu := conv_row hu (fun _ h => (by cases h)); replace hB := hB.trans (hb.mono hB.size); clear hb))
      go_ret
      exact ⟨rfl, hB⟩
    | some l =>
      have HR := Lib.hid hr
      have HT := Lib.hid (unquoteL_lt s l hr)
      clear hr
      go_enter Try.func6, Try.ntmps6
      go_wp2_with (first
        | (go_at_call 8; (with_reducible refine (HA.out _).mono ?_); rintro e w1 ⟨rfl, hb⟩; replace hB := hB.trans (hb.mono hB.size); clear hb)
        | (go_at_call 14; (with_reducible refine (eunq_some s l _ hz' HR.out).mono ?_); rintro e w2 ⟨v, rfl, hv, hb⟩; replace hB := hB.trans (hb.mono hB.size); clear hb)
        | (go_at_call 16; (with_reducible refine (runq_some s l _ hz' HR.out).mono ?_); rintro e w3 ⟨u, rfl, hu, hb⟩; have hcv := conv_row (hv.below hb (Nat.le_refl _)) HT.out; have hcu := conv_row hu HT.out; replace hB := hB.trans (hb.mono hB.size); clear hb))
      go_ret
      exact ⟨rfl, hB⟩
  · go_enter Try.func6, Try.ntmps6
    go_wp2_with (first
      | (go_at_call 8; (with_reducible refine (HA.out _).mono ?_); rintro e w1 ⟨rfl, hb⟩; replace hB := hB.trans (hb.mono hB.size); clear hb))
    go_ret
    exact ⟨rfl, hB⟩
set_option maxHeartbeats 2000000 in
theorem literals_any (l : List Nat) (v : Value) (w : World) (hv : RowAt w v (u8s l)) (hl : ∀ x, x ∈ l → x < 256) (hn : l.length ≤ 9223372036854775807) :
    Calls Try.prog 5 #[v] w fun e w' => e = .returned (.bool true) ∧ Below w.heap.size w w' := by
  have hA := awake_at
  unfold AwakeAt at hA
  have HA := Lib.hid hA
  clear hA
  have hv' := hv
  obtain ⟨a, cap, rfl, -⟩ := hv'
  rw [u8s_length] at hv ⊢
  have hB : Below w.heap.size w w := Below.refl _ _
  by_cases hz : (l.length : Int) ≤ 500
  · have hz' : l.length ≤ 10000 := by omega
    obtain ⟨s, hs⟩ : ∃ s, s = strOf (litL l) := ⟨_, rfl⟩
    have hb : bts s = litL l := by rw [hs]; exact bts_strOf _ (litL_lt l hl)
    have hsz : s.size ≤ 1000000 := by
      have h1 := formsL_len l
      rw [hs, strOf_size]
      unfold litL
      rw [List.length_append, List.length_cons, List.length_singleton]
      omega
    have hu : unquoteL (bts s) = some l := by rw [hb]; exact unquote_lit l hl
    have hlit : ∀ (x : Value) (w : World), RowAt w x (u8s l) → Calls Try.prog 13 #[x] w fun e w' => e = .returned (.string s) ∧ Below w.heap.size w w' := fun x w h => by rw [hs]; exact literal_any l x w h hl hz'
    have hrlit : ∀ (x : Value) (w : World), RowAt w x (u8s l) → Calls Try.prog 15 #[x] w fun e w' => e = .returned (.string s) ∧ Below w.heap.size w w' := fun x w h => by rw [hs]; exact rliteral_any l x w h hl hz'
    have HU := Lib.hid hu
    have HL := Lib.hid hlit
    have HR := Lib.hid hrlit
    have HT := Lib.hid hl
    clear hs hb hu hlit hrlit hl
    go_enter Try.func5, Try.ntmps5
    go_wp2_with (first
      | (go_at_call 8; (with_reducible refine (HA.out _).mono ?_); rintro e w1 ⟨rfl, hb⟩; replace hv := hv.below hb (Nat.le_refl _); replace hB := hB.trans (hb.mono hB.size); clear hb)
      | (go_at_call 13; (with_reducible refine (HL.out _ _ hv).mono ?_); rintro e w2 ⟨rfl, hb⟩; replace hv := hv.below hb (Nat.le_refl _); replace hB := hB.trans (hb.mono hB.size); clear hb)
      | (go_at_call 14; (with_reducible refine (eunq_some s l _ hsz HU.out).mono ?_); rintro e w3 ⟨u, rfl, hg, hb⟩; replace hv := hv.below hb (Nat.le_refl _); replace hB := hB.trans (hb.mono hB.size); clear hb)
      | (go_at_call 15; (with_reducible refine (HR.out _ _ hv).mono ?_); rintro e w4 ⟨rfl, hb⟩; have hcv := conv_row (hv.below hb (Nat.le_refl _)) HT.out; have hcg := conv_row (hg.below hb (Nat.le_refl _)) HT.out; replace hB := hB.trans (hb.mono hB.size); clear hb))
    go_ret
    exact ⟨rfl, hB⟩
  · go_enter Try.func5, Try.ntmps5
    go_wp2_with (first
      | (go_at_call 8; (with_reducible refine (HA.out _).mono ?_); rintro e w1 ⟨rfl, hb⟩; replace hB := hB.trans (hb.mono hB.size); clear hb))
    go_ret
    exact ⟨rfl, hB⟩
end Go.Proofs.Ytlcaclemogamdaa
