/- The law FlowTexts. -/
import Derived.Test.YtocklhehfdilmaaPkFlowAw
namespace Go.Proofs.Ytocklhehfdilmaa
open Go.RowKit
theorem eqlR' (f g : Fc) (w : World) : (binOp .eql 35 (.agg #[.bool f.nul, .bool f.eat, .bool f.fai]) (.agg #[.bool g.nul, .bool g.eat, .bool g.fai])).run Try.prog w = .ok (.bool (eqFc f g)) w := by rw [eqFc_is]; exact eqlR f g w
theorem tx0 : textF ⟨false, false, false⟩ = ⟨#[45]⟩ := rfl
theorem tx1 : textF ⟨false, false, true⟩ = ⟨#[102]⟩ := rfl
theorem tx2 : textF ⟨false, true, false⟩ = ⟨#[101]⟩ := rfl
theorem tx3 : textF ⟨false, true, true⟩ = ⟨#[101, 102]⟩ := rfl
theorem tx4 : textF ⟨true, false, false⟩ = ⟨#[110]⟩ := rfl
theorem tx5 : textF ⟨true, false, true⟩ = ⟨#[110, 102]⟩ := rfl
theorem tx6 : textF ⟨true, true, false⟩ = ⟨#[110, 101]⟩ := rfl
theorem tx7 : textF ⟨true, true, true⟩ = ⟨#[110, 101, 102]⟩ := rfl
set_option maxHeartbeats 16000000 in
set_option maxRecDepth 100000 in
theorem law11_texts (f g : Fc) (w : World) : Calls Try.prog 7 #[factV f, factV g] w fun e w' => e = .returned (.bool true) ∧ Below w.heap.size w w' := by
  obtain ⟨v, hv⟩ : ∃ v, v = eqFc f g := ⟨_, rfl⟩
  have HE := Lib.hid (fun V => eqlR' f g V)
  rw [← hv] at HE
  obtain ⟨sf, hsf⟩ : ∃ s, s = textF f := ⟨_, rfl⟩
  obtain ⟨sg, hsg⟩ : ∃ s, s = textF g := ⟨_, rfl⟩
  have HTf := Lib.hid (fun V => ftext_any f V)
  have HTg := Lib.hid (fun V => ftext_any g V)
  rw [← hsf] at HTf
  rw [← hsg] at HTg
  obtain ⟨a, b, c⟩ := f
  obtain ⟨x, y, z⟩ := g
  unfold factV at HTf HTg
  unfold factV
  have HB0 := Lib.hid (two_new w (.cells #[.bool a, .bool b, .bool c] 35) (.cells #[.bool x, .bool y, .bool z] 35))
  have HF0 := Lib.hid (Bl.past (o := .cells #[.bool x, .bool y, .bool z] 35) (Bl.new w 35 #[.bool a, .bool b, .bool c]))
  have HG0 := Lib.hid (Bl.new' (w := w.alloc (.cells #[.bool a, .bool b, .bool c] 35)) (B := w.heap.size + 1) (t := 35) (cs := #[.bool x, .bool y, .bool z]) (by simp))
  have s0 : (⟨#[]⟩ : ByteArray) ++ (⟨#[110]⟩ : ByteArray) = ⟨#[110]⟩ := rfl
  have s1 : (⟨#[]⟩ : ByteArray) ++ (⟨#[101]⟩ : ByteArray) = ⟨#[101]⟩ := rfl
  have s2 : (⟨#[]⟩ : ByteArray) ++ (⟨#[102]⟩ : ByteArray) = ⟨#[102]⟩ := rfl
  have s3 : (⟨#[110]⟩ : ByteArray) ++ (⟨#[101]⟩ : ByteArray) = ⟨#[110, 101]⟩ := rfl
  have s4 : (⟨#[110]⟩ : ByteArray) ++ (⟨#[102]⟩ : ByteArray) = ⟨#[110, 102]⟩ := rfl
  have s5 : (⟨#[101]⟩ : ByteArray) ++ (⟨#[102]⟩ : ByteArray) = ⟨#[101, 102]⟩ := rfl
  have s6 : (⟨#[110, 101]⟩ : ByteArray) ++ (⟨#[102]⟩ : ByteArray) = ⟨#[110, 101, 102]⟩ := rfl
  cases a <;> cases b <;> cases c <;> cases x <;> cases y <;> cases z <;>
  · first | rw [tx0] at hsf | rw [tx1] at hsf | rw [tx2] at hsf | rw [tx3] at hsf | rw [tx4] at hsf | rw [tx5] at hsf | rw [tx6] at hsf | rw [tx7] at hsf
    first | rw [tx0] at hsg | rw [tx1] at hsg | rw [tx2] at hsg | rw [tx3] at hsg | rw [tx4] at hsg | rw [tx5] at hsg | rw [tx6] at hsg | rw [tx7] at hsg
    first | (obtain rfl : v = true := hv) | (obtain rfl : v = false := hv)
    subst hsf
    subst hsg
    go_enter Try.func7, Try.ntmps7
    go_wp2_with (first
      | (go_at_call 8; (with_reducible refine (awake11_any _).mono ?_); rintro e w1 ⟨rfl, hb⟩; have HB1 := Lib.hid (bl_on HB0.out hb); have hf := HF0.out.below hb; have hg := HG0.out.below hb; have a0 := hf.c0; have a1 := hf.c1; have a2 := hf.c2; have HF1 := Lib.hid hf; have HG1 := Lib.hid hg; clear hb hf hg)
      | (go_at_call 19; (with_reducible refine (HTf.out _).mono ?_); rintro e w2 ⟨rfl, hb⟩; have HB2 := Lib.hid (bl_on HB1.out hb); have hf := HF1.out.below hb; have hg := HG1.out.below hb; have b0 := hg.c0; have b1 := hg.c1; have b2 := hg.c2; have HF2 := Lib.hid hf; have HG2 := Lib.hid hg; clear hb hf hg a0 a1 a2 HTf)
      | (go_at_call 19; (with_reducible refine (HTg.out _).mono ?_); rintro e w3 ⟨rfl, hb⟩; have HB3 := Lib.hid (bl_on HB2.out hb); have hf := HF2.out.below hb; have hg := HG2.out.below hb; have c0 := hg.c0; have c1 := hg.c1; have c2 := hg.c2; have d0 := hf.c0; have d1 := hf.c1; have d2 := hf.c2; clear hb hf hg b0 b1 b2)
      | (with_reducible refine gwpList_agg BinOp.eql 35 _ _ _ rfl rfl _ _ rfl rfl gtR _ (HE.out _) ?_))
    go_ret
    exact ⟨rfl, HB3.out⟩
end Go.Proofs.Ytocklhehfdilmaa
