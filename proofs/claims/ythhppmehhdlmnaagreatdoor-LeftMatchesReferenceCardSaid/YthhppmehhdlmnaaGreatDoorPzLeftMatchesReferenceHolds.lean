/- Proved: the law LeftMatchesReference returns true for every grammar and every 8-bit number, where the listed variable (vetch/lexer.signs) holds what the program's text lays in it; it changes nothing that lay in memory before. No further condition. -/
import Derived.Test.YthhppmehhdlmnaaGreatDoorTie
import Derived.Test.YthhppmehhdlmnaaGreatDoorCards
import Derived.SevenTiedAt
import Derived.ChangeMaps5
import Derived.Test.YthhppmehhdlmnaaGreatDoorPzLO
import Derived.Test.YthhppmehhdlmnaaGreatDoorPzGO
import Derived.Test.YthhppmehhdlmnaaGreatDoorPzLS
import Derived.Test.YthhppmehhdlmnaaGreatDoorPzLeftLaw1
set_option maxRecDepth 100000
set_option maxHeartbeats 200000
namespace Go.Proofs.YthhppmehhdlmnaaGreatDoor
open Go.ChangeShapes Go.WideShapes Go.ChangeAt Go.RowKit Go.ChangeMaps
theorem laidOut_lmat:laidOutB Tryz.prog=true:=by kernel_rfl
theorem lmat_lifted (os:Os)(started:os.Started)(H:Type)(enc:TypeId × Value->H) :
  ReturnsInHanded {} Tryz.checked os 3 .any (fun w args=>(Rows.leftMatchesReferenceSpec.pre enc Tryz.prog Tryz.f3 [] false w args/\laidMetH Tryz.prog laidS w)/\sizedMet enc Tryz.prog Tryz.f3 (OpenSpec.ofChange Rows.leftMatchesReferenceSpec) false w args)
   (Rows.leftMatchesReferenceSpec.post enc Tryz.prog Tryz.f3 false true false false):=by
 refine returnsInHanded_of_change_and (C:=Tryz.checked) (X:=fun w _=>laidMetH Tryz.prog laidS w) (fun _ _ _ hh h=>h.of_heap hh) own started (by kernel_rfl) Tryz.func3
  (ChangeSpec.witness_at (enc:=enc) (C:=Tryz.checked) (os:=os) (X:=fun w _=>laidMetH Tryz.prog laidS w) false (zgh os) #[.agg #[.slice none 0 0,.slice none 0 0],.int .u8 0] 8 rfl (by kernel_rfl) (by kernel_rfl) (by kernel_rfl) (by kernel_rfl) (by kernel_rfl) (ze6 os _)) ?_
 intro W base args ds gs before hval0 hW _ _ hL _;have hval:∀(j:Nat) t v,Tryz.f3.params[j]?=some t->args[j]?=some v->Value.okWide Tryz.prog W .any base t v:=hval0;have hW':=hW;obtain⟨p,q,hA0,hV,rfl,hfz,hnd⟩:=hW;have hA:DataW.TrodAll enc Tryz.prog W 0 (fun _=>true) true Tryz.f3.params.toList args.toList ds p:=hA0;rw[Tryz.params3] at hA hval;obtain⟨v0,v1,d0,d1,p0,p1,rfl,rfl,rfl,h0,h1⟩:=trodAll_two hA;obtain⟨rfl,rfl⟩:=trodVars_none hV;obtain⟨rv0,nv0,rs0,ns0,rfl,hr0,hn0,hc0,hcap0⟩:=ze9 (hval 0 25 v0 rfl rfl) h0;obtain⟨c,rfl,-,-,wc⟩:=open_int Tryz.underlying5 (hval 1 5 v1 rfl rfl) h1;obtain⟨a,rfl⟩:∃a:Nat,c=(a:Int):=⟨c.toNat,by have:=(u8_of wc).1;omega⟩;have ha:=(u8_of wc).2;refine(z97 rv0 nv0 rs0 ns0 a (by omega) W (sgn13 hL) hr0 hn0 hc0 (fun _ h7=>yaae _ _ (fun _ _ _ hj=>zdr hj) (fun i=>zgo rs0 ns0 i) h7)).mono fun e W' ⟨he,hb⟩=>?_
 subst he;exact⟨_,rfl,zsl laidOut_lmat (by kernel_rfl) rfl rfl Tryz.underlying4 rfl rfl rfl hW' hb⟩
theorem lmat_holds:Rows.LeftMatchesReferenceSaid:=
 OpenClaim.holds_of_wide 3 Tryz.f3 rfl rfl rfl rfl rfl rfl rfl ⟨rfl,rfl,rfl,rfl,rfl⟩ rfl rfl rfl rfl rfl (by kernel_rfl) Tryz.func3 (by kernel_rfl)
  (of_decide_eq_true (by kernel_rfl)) (by unfold Func.isWrapper;first|(rw[if_pos (by decide +kernel)];kernel_rfl)|(rw[if_neg (by decide +kernel)];exact⟨rfl,rfl⟩))
  (fun os started H enc _=>lmat_lifted os started H enc)
theorem lmat_card:Rows.LeftMatchesReferenceCardSaid:=
 Claim7.holds_tied_plain_at .later [] [.data] true (true,Rows.leftMatchesReferenceCard.stood.harness.2) true
  lmat_holds (fun _ h=>by cases h) (by kernel_rfl) (fun _ h=>by cases h) leftMatchesReference_row_tie rfl ⟨rfl,rfl⟩ (by kernel_rfl) rfl
  (fun f fn hf hfn=>by
   obtain rfl:f=3:=Option.some.inj ((show Tryz.prog.funcNamed "vetch/vetchlaw13.LeftMatchesReference" = some 3 by kernel_rfl).symm.trans hf) |>.symm
   obtain rfl:fn=Tryz.f3:=(Option.some.inj (Tryz.func3.symm.trans hfn)).symm;exact⟨by kernel_rfl,fun j t ht=>by
    rw[Tryz.params3] at ht;rcases j with _|_|j
    ·have h3:t=25:=by simpa using ht.symm
     subst h3;exact(show Tryz.prog.wantsStandIn 25=false by kernel_rfl)
    ·have h3:t=5:=by simpa using ht.symm
     subst h3;exact(show Tryz.prog.wantsStandIn 5=false by kernel_rfl)
    ·simp at ht⟩)
  (by kernel_rfl)
end Go.Proofs.YthhppmehhdlmnaaGreatDoor
