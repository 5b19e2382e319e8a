/- Proved: the law ResolveMatchesReference returns true for every string, where the arguments together have a bulk of at most 1048576 (the row's own bound), and the two listed variables (errors.errorType, vetch/lexer.signs) hold what the program's text lays in them; it changes nothing that lay in memory before. -/
import Derived.Test.YtnmflokhnaiiiaaGreatDoorTie
import Derived.Test.YtnmflokhnaiiiaaGreatDoorCards
import Derived.SevenTiedAt
import Derived.ChangeMaps5
import Derived.Deep.DeepHandedRow
import Derived.Test.YtnmflokhnaiiiaaGreatDoorPkLexLaidOf
import Derived.Test.YtnmflokhnaiiiaaGreatDoorPkRF
import Derived.Test.YtnmflokhnaiiiaaGreatDoorPkResLaw1
import Derived.Test.YtnmflokhnaiiiaaGreatDoorPkLift
set_option maxRecDepth 100000
set_option maxHeartbeats 200000
namespace Go.Proofs.YtnmflokhnaiiiaaGreatDoor
open Go.ChangeShapes Go.WideShapes Go.ChangeAt Go.RowKit Go.ChangeMaps
theorem laidOut_resMatches:laidOutB Tryz.prog=true:=by kernel_rfl
theorem reads_resMatches (os:Os){H:Type}(enc:TypeId × Value->H):∃places,DataW.whole enc Tryz.prog ((zce os).forCall (fun _ _=>0) ⟨#[],#[.string ⟨#[]⟩],[]⟩).memory Tryz.f3.params.toList Rows.resolveMatchesReferenceSpec.vars false (#[.string ⟨#[]⟩]:Array Value).toList 8=some ([.lit (.string [])],[],places):=
 ⟨[],by kernel_rfl⟩
theorem resMatches_upto (os:Os)(started:os.Started)(H:Type)(enc:TypeId × Value->H)(F:Stop.Interp) :
  ReturnsInHanded {} Tryz.checked os 3 .any ((Rows.OpenSpec.upto Rows.resolveMatchesReferenceSpec).preRow enc Tryz.prog Tryz.f3 Rows.resolveMatchesReferenceUptoRow.domain false Rows.resolveMatchesReferenceUptoRow.laid) (((Rows.OpenSpec.upto Rows.resolveMatchesReferenceSpec).at F).post enc Tryz.prog Tryz.f3 false true false false):=by
 obtain⟨places,hx⟩:=reads_resMatches os enc;refine returnsInHanded_of_row (C:=Tryz.checked) (s:=Rows.OpenSpec.upto Rows.resolveMatchesReferenceSpec) own started (by kernel_rfl) Tryz.func3
  (witness_row_at (enc:=enc) (C:=Tryz.checked) false (zce os) #[.string ⟨#[]⟩] rfl (by kernel_rfl) (by kernel_rfl) (by kernel_rfl)
   (OpenSpec.preRow_of_cond 8 hx (by kernel_rfl) (fun k hk=>by cases hk;kernel_rfl) (by kernel_rfl) (zct os _))) ?_
 intro W base args ds gs before hval0 hW _ hcond _ hL _ _;have hval:∀(j:Nat) t v,Tryz.f3.params[j]?=some t->args[j]?=some v->Value.okWide Tryz.prog W .any base t v:=hval0;have hW':=hW;obtain⟨p,q,hA0,hV,rfl,hfz,hnd⟩:=hW;have hA:DataW.TrodAll enc Tryz.prog W 0 (fun _=>true) true Tryz.f3.params.toList args.toList ds p:=hA0;rw[Tryz.params3] at hA hval;obtain⟨v0,d0,rfl,rfl,h0⟩:=trodAll_one hA;obtain⟨rfl,rfl⟩:=trodVars_none hV;obtain⟨s,rfl,rfl,rfl,ws0⟩:=open_string Tryz.underlying9 (hval 0 9 v0 rfl rfl) h0;have hk:=of_decide_eq_true (hcond _ rfl);simp only[Rows.uptoBulkAll,Rows.uptoBulk,List.cons_append,List.nil_append] at hk;have hs:s.size<=1050000:=by rw[Array.length_toList] at hk;have e:s.data.size=s.size:=rfl;omega
 refine(z1l zef s W (zed hL) hs).mono fun e W' ⟨he,hb⟩=>?_
 subst he;exact⟨_,rfl,zg2 laidOut_resMatches (by kernel_rfl) rfl rfl Tryz.underlying4 rfl rfl rfl hW' hb⟩
theorem resMatches_upto_holds:Rows.ResolveMatchesReferenceUptoSaid:=
 OpenClaim.holds_of_cond 3 Tryz.f3 rfl rfl rfl rfl rfl rfl rfl ⟨rfl,rfl,rfl,rfl,rfl⟩ rfl rfl rfl rfl rfl (by kernel_rfl) Tryz.func3 (by kernel_rfl)
  (of_decide_eq_true (by kernel_rfl)) (by unfold Func.isWrapper;first|(rw[if_pos (by decide +kernel)];kernel_rfl)|(rw[if_neg (by decide +kernel)];exact⟨rfl,rfl⟩))
  (fun os started H enc _ F=>by rw[OpenClaim.pre_eq_preRow];exact resMatches_upto os started H enc F)
theorem resMatches_upto_card:Rows.ResolveMatchesReferenceUptoCardSaid:=
 Claim7.holds_tied_plain_at .later [] _ _ _ _
  resMatches_upto_holds (fun _ h=>by cases h) (by kernel_rfl) (fun _ h=>by cases h) resolveMatchesReferenceUpto_row_tie rfl ⟨rfl,rfl⟩ (by kernel_rfl) rfl
  (fun f fn hf hfn=>by
   obtain rfl:f=3:=Option.some.inj ((show Tryz.prog.funcNamed "vetch/vetchlaw09.ResolveMatchesReference" = some 3 by kernel_rfl).symm.trans hf) |>.symm
   obtain rfl:fn=Tryz.f3:=(Option.some.inj (Tryz.func3.symm.trans hfn)).symm;exact⟨by kernel_rfl,fun j t ht=>by
    rw[Tryz.params3] at ht;rcases j with _|j
    ·have h3:t=9:=by simpa using ht.symm
     subst h3;exact(show Tryz.prog.wantsStandIn 9=false by kernel_rfl)
    ·simp at ht⟩)
  (by kernel_rfl)
end Go.Proofs.YtnmflokhnaiiiaaGreatDoor
