/- The contract of the reference's Next: the next token and its end, or the first wrong byte. The contracts of the reference's Next, whatever spacing comes first,  -/
import Derived.Deep.Cut
import Derived.Deep.DeepCutAuto
import Derived.Test.YtmopdlbpkiaoeaaGreatDoorPqE
set_option maxRecDepth 100000
set_option maxHeartbeats 8000000
open Go.IntKind renaming i64->jd, u64->jg
open Go.Value renaming int->je, string->jh, bool->ji, tuple->jk
namespace Go.Proofs.YtmopdlbpkiaoeaaGreatDoor
open Go.Lib renaming cell_of_heap->qdi, hid->qaa
open Go.Proofs.Tryz renaming prog->qab, underlying9->qba
open Go.RowKit.Below renaming refl->qaf
open Go.World renaming size_alloc->qbl
open List renaming drop_eq_nil_of_le->qay
open Nat renaming le_refl->qac, lt_succ_self->qas
open Go.RowKit
variable {k n:Nat}{w w':World}
def tokV (t:Tok):Value:=.agg #[je jd (t.kind:Int),je jd (t.at_:Int),jh (strOf t.text),je jg (setW (inRs t.rs) 0),je jg (setW (inRs t.rs) 1),je jg (setW (inRs t.rs) 2),je jg (setW (inRs t.rs) 3)]
def tok0:Value:=.agg #[je jd 0,je jd 0,jh ⟨#[]⟩,je jg 0,je jg 0,je jg 0,je jg 0]
def TokIs (o:Option (Tok × Nat))(k:Nat)(w:World)(e:Ending)(w':World):Prop:=
 match o with
 |some (t,n)=>e=.returned (jk #[tokV t,je jd (n:Int),je jd (-1)])/\Below w.heap.size w w'
 |none=>e=.returned (jk #[tok0,je jd 0,je jd (k:Int)])/\Below w.heap.size w w'
theorem TokIs.bad {o:Option (Tok × Nat)}{k:Nat}(h:o=none)(hb:Below w.heap.size w w') :
  TokIs o k w (.returned (jk #[.agg #[je jd 0,je jd 0,jh ⟨#[]⟩,je jg 0,je jg 0,je jg 0,je jg 0],je jd 0,je jd (k:Int)])) w':=by
 subst h;exact⟨rfl,hb⟩
theorem zc6 (k:Nat):setW (inRs []) k=0:=zcc k
theorem TokIs.plain {o:Option (Tok × Nat)}{k a:Nat}{t:List Nat}{x y:Int}{s:ByteArray}(h:o=some (⟨a,k,t,[]⟩,n))(ha:x=a)(hs:s=strOf t)(hn:y=n)(hb:Below w.heap.size w w') :
  TokIs o k w (.returned (jk #[.agg #[je jd x,je jd (k:Int),jh s,je jg 0,je jg 0,je jg 0,je jg 0],je jd y,je jd (-1)])) w':=by
 subst h ha hs hn;refine⟨?_,hb⟩;unfold tokV;simp only[zc6]
theorem TokIs.cls {o:Option (Tok × Nat)}{k:Nat}{rs:List (Nat × Nat)}{y:Int}(h:o=some (⟨13,k,[],rs⟩,n))(hn:y=n)(hb:Below w.heap.size w w') :
  TokIs o k w (.returned (jk #[.agg #[je jd 13,je jd (k:Int),jh ⟨#[]⟩,je jg (setW (inRs rs) 0),je jg (setW (inRs rs) 1),je jg (setW (inRs rs) 2),je jg (setW (inRs rs) 3)],je jd y,je jd (-1)])) w':=by
 subst h hn;exact⟨rfl,hb⟩
theorem zgk (s:ByteArray)(k j:Nat):s.extract k j=strOf (((bts s).drop k).take (j-k)):=by
 rw[<-zby,zt7]
def Zero7 (B:Nat)(w:World):Prop:=
 (w.cell? ⟨B,0,none⟩=some (je jd 0)/\w.cell? ⟨B,1,none⟩=some (je jd 0)/\w.cell? ⟨B,2,none⟩=some (jh ⟨#[]⟩)/\w.cell? ⟨B,3,none⟩=some (je jg 0)/\w.cell? ⟨B,4,none⟩=some (je jg 0)/\w.cell? ⟨B,5,none⟩=some (je jg 0)/\w.cell? ⟨B,6,none⟩=some (je jg 0))/\∀o,w.frozen? ⟨B,o,none⟩=false
theorem Zero7.new (w:World):Zero7 w.heap.size (w.alloc (.cells #[je jd 0,je jd 0,jh ⟨#[]⟩,je jg 0,je jg 0,je jg 0,je jg 0] 169)):=by
 unfold Zero7;refine⟨⟨?_,?_,?_,?_,?_,?_,?_⟩,fun o=>?_⟩<;>simp
theorem Zero7.below {B:Nat}(h:Zero7 B w)(hb:Below n w w')(hB:B<n):Zero7 B w':=by
 obtain⟨⟨h0,h1,h2,h3,h4,h5,h6⟩,hf⟩:=h;have hc:=bcell hb;exact⟨⟨by rw[hc.1 _ _ hB];exact h0,by rw[hc.1 _ _ hB];exact h1,by rw[hc.1 _ _ hB];exact h2,by rw[hc.1 _ _ hB];exact h3,by rw[hc.1 _ _ hB];exact h4,by rw[hc.1 _ _ hB];exact h5,by rw[hc.1 _ _ hB];exact h6⟩,fun o=>by rw[hc.2 _ _ hB];exact hf o⟩
theorem za8 {B:Nat}(hb:Below B w w')(a b c d e f g:Value) :
  Below B w (((((((w'.setCell ⟨B,0,none⟩ a).setCell ⟨B,1,none⟩ b).setCell ⟨B,2,none⟩ c).setCell ⟨B,3,none⟩ d).setCell ⟨B,4,none⟩ e).setCell ⟨B,5,none⟩ f).setCell ⟨B,6,none⟩ g):=
 ((((((hb.setCell (qac _) _).setCell (qac _) _).setCell (qac _) _).setCell (qac _) _).setCell (qac _) _).setCell (qac _) _).setCell (qac _) _
theorem zrc (t:ByteArray)(x y:Nat)(h:bts t=[x,y]):(t.toList == [60,45])=decide (x=60/\y=45):=by
 rw[Bool.eq_iff_iff,beq_iff_eq,decide_eq_true_iff,ByteArray.toList_eq];constructor
 ·intro e
  unfold bts at h;rw[e] at h;have h':[60,45]=[x,y]:=h;injection h' with a b;injection b with b c;exact⟨a.symm,b.symm⟩
 ·rintro⟨rfl,rfl⟩
  have e:t=⟨#[60,45]⟩:=zow h;rw[e]
theorem zpo (s:ByteArray)(p k:Nat)(w:World)(hs:s.size<=1050000)(hlt:k<s.size)
  (HS:Hid (∀w,Calls qab 148 #[jh s,je jd (p:Int)] w fun e w'=>e=.returned (jk #[je jd (k:Int),ji true])/\w'=w))
  (hl:letB s[k].toNat true=false) (h2:k+1<s.size) (har:s[k].toNat=60/\s[k+1].toNat=45) :
  Calls qab 131 #[jh s,je jd (p:Int)] w (TokIs (tokL k ((bts s).drop k)) k w):=by
 have hd:=zas s k hlt;have hlt':(k:Int)<(s.size:Int):=U
 have e0:((k:Int) == (s.size:Int))=false:=by rw[beq_eq_false_iff_ne];omega
 have HL:=qaa hl;have hd2:=zas s (k+1) h2;have h2':(k:Int)+1<(s.size:Int):=U
 have ksl:∀w,(Instr.slice 9 (jh s) (some (je jd (k:Int))) (some (je jd ((k:Int)+2))) none).run qab w=.ok (jh (s.extract k (k+2))) w:=fun w=>
  run_slice_string (P:=qab) (w:=w) 9 s .i64 .i64 (k:Int) ((k:Int)+2) qba U U U
 have htt:bts (s.extract k (k+2))=[s[k].toNat,s[k+1].toNat]:=by
  rw[zby,hd,hd2,Nat.add_sub_cancel_left];rfl
 have hte:=zrc _ _ _ htt;generalize s.extract k (k+2)=tt at ksl htt hte;have hq:tokL k ((bts s).drop k)=some (⟨2,k,[],[]⟩,k+2):=by rw[hd];exact zbq hl ⟨har.1,by rw[hd2,har.2];rfl⟩
 rw[decide_eq_true har] at hte;have HQ:=qaa hq;clear hd hd2 hl har hq htt;go_enter Tryz.func131,Tryz.ntmps131
 go_wp2_with (go_at_call 148;(with_reducible refine(HS.out _).mono ?_);rintro e w' ⟨rfl,hw⟩;obtain rfl:=hw.symm;clear hw)
 refine wp_loop_rounds 1 ?_;rw[rounds_succ]
 go_wp2_with (go_at_call 114;refine(zea _ _ false _ HL.out).mono ?_;rintro e w' ⟨rfl,hw⟩;obtain rfl:=hw.symm;clear hw)
 refine bodyPost_ret (v:=jk #[.agg #[je jd 2,je jd (k:Int),jh ⟨#[]⟩,je jg 0,je jg 0,je jg 0,je jg 0],je jd ((k:Int)+2),je jd (-1)]) (by simp[results,Tryz.results131,go_sem]) rfl (TokIs.plain HQ.out rfl rfl rfl ?_);exact(qaf _ w).alloc (qac _) _
theorem zs3 (s:ByteArray)(p k:Nat)(w:World)(hs:s.size<=1050000)(hlt:k<s.size)
  (HS:Hid (∀w,Calls qab 148 #[jh s,je jd (p:Int)] w fun e w'=>e=.returned (jk #[je jd (k:Int),ji true])/\w'=w))
  (hl:letB s[k].toNat true=false) (hna:∀h2:k+1<s.size,¬(s[k].toNat=60/\s[k+1].toNat=45)) :
  Calls qab 131 #[jh s,je jd (p:Int)] w (TokIs (tokL k ((bts s).drop k)) k w):=by
 have hs':s.size<=2000000:=U
 have hd:=zas s k hlt;have hlt':(k:Int)<(s.size:Int):=U
 have e0:((k:Int) == (s.size:Int))=false:=by rw[beq_eq_false_iff_ne];omega
 have HL:=qaa hl;have HN:Hid (¬(s[k].toNat=60/\((bts s).drop (k+1)).head?=some 45)):=qaa (fun e=>by
  by_cases h2:k+1<s.size
  ·have:=e.2
   rw[zas s (k+1) h2] at this;exact hna h2 ⟨e.1,Option.some.inj this⟩
  ·have:=e.2
   rw[qay (by rw[zaj];omega)] at this;cases this)
 have HD:=qaa hd;have HNA:=qaa hna;clear hd hl hna;go_enter Tryz.func131,Tryz.ntmps131
 go_wp2_with (go_at_call 148;(with_reducible refine(HS.out _).mono ?_);rintro e w' ⟨rfl,hw⟩;obtain rfl:=hw.symm;clear hw)
 refine wp_loop_rounds 1 ?_;rw[rounds_succ]
 go_upto_region 11 with(go_at_call 114;refine(zea _ _ false _ HL.out).mono ?_;rintro e w' ⟨rfl,hw⟩;obtain rfl:=hw.symm;clear hw)
 go_cut [72] (fun v wx=>v=ji false/\wx=w.alloc (.cells #[je jd 0,je jd 0,jh ⟨#[]⟩,je jg 0,je jg 0,je jg 0,je jg 0] 169))
 case first=>
  by_cases h2:k+1<s.size
  ·have h2':(k:Int)+1<(s.size:Int):=U
   have ksl:∀w,(Instr.slice 9 (jh s) (some (je jd (k:Int))) (some (je jd ((k:Int)+2))) none).run qab w=.ok (jh (s.extract k (k+2))) w:=fun w=>
    run_slice_string (P:=qab) (w:=w) 9 s .i64 .i64 (k:Int) ((k:Int)+2) qba U U U
   have htt:bts (s.extract k (k+2))=[s[k].toNat,s[k+1].toNat]:=by
    rw[zby,zas s k hlt,zas s (k+1) h2,Nat.add_sub_cancel_left];rfl
   have hte:=zrc _ _ _ htt;rw[decide_eq_false (HNA.out h2)] at hte;generalize s.extract k (k+2)=tt at ksl htt hte;clear htt
   go_wp2_with fail
   go_meet
   exact⟨rfl,rfl⟩
  ·have h2':¬(k:Int)+1<(s.size:Int):=U
   go_wp2_with fail
   go_meet
   exact⟨rfl,rfl⟩
 case rest=>
  obtain⟨rfl,rfl⟩:=hcut
  go_wp2_with fail
  obtain⟨sg,hsg⟩:∃sg:ByteArray,sg=⟨#[47,38,33,63,42,43,40,41,46]⟩:=⟨_,rfl⟩;have hbs:bts sg=sigs:=by rw[hsg];rfl
  have hz9:sg.size=9:=by rw[hsg];rfl
  have HBS:=qaa hbs;simp only[<-hsg];clear hsg hbs
  go_loopw [10] (fun c wr=>∃j:Nat,j<=9/\c=je jd j/\signK s[k].toNat=idxL (3+j) (sigs.drop j) s[k].toNat/\Below (w.heap.size+1) (w.alloc (.cells #[je jd 0,je jd 0,jh ⟨#[]⟩,je jg 0,je jg 0,je jg 0,je jg 0] 169)) wr) (fun c _=>9-(intOf c).toNat)
  case atStart=>exact⟨0,Nat.zero_le _,rfl,rfl,qaf _ _⟩
  case round=>
   obtain⟨j,hj,rfl,hi,hb⟩:=hrel;have HI:=qaa hi;have hz7:=(Zero7.new w).below hb (qas _);have hbw:Below w.heap.size w wr:=((qaf _ w).alloc (qac _) _).trans (hb.mono U);have hz1:w.heap.size<wr.heap.size:=by have:=hb.size;simp at this;omega
   clear hi;by_cases hj9:j<9
   ·have hjs:j<sg.size:=U
    have hj1:(j:Int)<(sg.size:Int):=U
    have hdj:=zas sg j hjs;rw[HBS.out] at hdj;by_cases he:sg[j].toNat=s[k].toNat
    ·have hq:=zca (k:=k) (i:=3+j) HL.out HN.out (by rw[HI.out,hdj,zh8 he])
     rw[<-HD.out] at hq;have HQ:=qaa hq;have hee:((sg[j].toNat:Int) == (s[k].toNat:Int))=true:=by rw[beq_iff_eq];omega
     obtain⟨⟨d0,d1,d2,d3,d4,d5,d6⟩,hfr⟩:=hz7;clear hdj hq he
     go_wp2_with fail
     go_quiet (fail);go_wp2;refine bodyPost_ret (v:=jk #[.agg #[je jd (3+(j:Int)),je jd (k:Int),jh ⟨#[]⟩,je jg 0,je jg 0,je jg 0,je jg 0],je jd ((k:Int)+1),je jd (-1)]) (by simp[results,Tryz.results131,go_sem,d0,d1,d2,d3,d4,d5,d6]) rfl (TokIs.plain HQ.out U rfl rfl ?_);exact za8 (zak hbw) _ _ _ _ _ _ _
    ·have hq:=qaa (show signK s[k].toNat=idxL (3+(j+1)) (sigs.drop (j+1)) s[k].toNat by rw[HI.out,hdj,zle he];rfl)
     have hee:((sg[j].toNat:Int) == (s[k].toNat:Int))=false:=by rw[beq_eq_false_iff_ne];omega
     clear hdj he hz7
     go_wp2_with fail
     go_quiet (fail);go_wp2;go_roundw
     case rel=>exact⟨j+1,U,by go_num,hq.out,zak hb⟩
     case measure=>simp[intOf];omega
   ·obtain rfl:j=9:=U
    have hsn:signK s[k].toNat=none:=by rw[HI.out];rfl
    have HSN:=qaa hsn;have hj1:¬(9:Int)<(sg.size:Int):=U
    clear hsn;by_cases h91:s[k].toNat=91
    ·cases hc:clsL ((bts s).drop (k+1)) with
     |none=>
      have hcl:∀w,Calls qab 149 #[jh s,je jd ((k:Int)+1)] w fun e w'=>e=.returned (jk #[.agg #[je jg 0,je jg 0,je jg 0,je jg 0],je jd (-1)])/\Below w.heap.size w w':=fun w=>by
       have h:=zkn s (k+1) w hs U;unfold ClsIs at h;rw[hc] at h;exact h
      have HCL:=qaa hcl;have hq:tokL k ((bts s).drop k)=none:=by rw[HD.out,h91,zc9,hc];rfl
      have HQ:=qaa hq;clear hcl hq hc
      go_wp2_with fail
      refine(HCL.out _).mono ?_;rintro e w2 ⟨rfl,hb2⟩;have hz8:=hz7.below hb2 hz1;have hB2:=hbw.trans (hb2.mono hbw.size);have hz2:w.heap.size<w2.heap.size:=by have:=hb2.size;omega
      clear hb2 hz7 HSN HBS HI HN HL HD HS HCL hj9 hj1 hj hb hbw
      go_upto_region 21 with fail
      obtain⟨W3,hW3⟩:∃W3,w2.alloc (.cells #[je jg 0,je jg 0,je jg 0,je jg 0] 41)=W3:=⟨_,rfl⟩;obtain⟨⟨d0,d1,d2,d3,d4,d5,d6⟩,hfr⟩:Zero7 w.heap.size W3:=by rw[<-hW3];exact hz8.below ((qaf _ _).alloc (qac _) _) hz2
      have HB3:Hid (Below w.heap.size w W3):=qaa (by rw[<-hW3];exact hB2.alloc U _);rw[hW3];clear hW3 hz8 hB2 hz2 hz1;go_wp2;refine bodyPost_ret (v:=jk #[.agg #[je jd 0,je jd 0,jh ⟨#[]⟩,je jg 0,je jg 0,je jg 0,je jg 0],je jd 0,je jd (k:Int)]) (by simp[results,Tryz.results131,go_sem,d0,d1,d2,d3,d4,d5,d6]) rfl (TokIs.bad HQ.out ?_);exact za8 HB3.out _ _ _ _ _ _ _
     |some x=>
      obtain⟨rs,m⟩:=x;have hcl:∀w,Calls qab 149 #[jh s,je jd ((k:Int)+1)] w fun e w'=>e=.returned (jk #[.agg #[je jg (setW (inRs rs) 0),je jg (setW (inRs rs) 1),je jg (setW (inRs rs) 2),je jg (setW (inRs rs) 3)],je jd ((k:Int)+1+(m:Int))])/\Below w.heap.size w w':=fun w=>by
       have h:=zkn s (k+1) w hs U;unfold ClsIs setV at h;rw[hc] at h;exact h
      have HCL:=qaa hcl;have hq:tokL k ((bts s).drop k)=some (⟨13,k,[],rs⟩,k+1+m):=by rw[HD.out,h91,zc9,hc];rfl
      have HQ:=qaa hq;have g1:¬(k:Int)+1+(m:Int)<0:=U
      clear hcl hq hc
      go_wp2_with fail
      refine(HCL.out _).mono ?_;rintro e w2 ⟨rfl,hb2⟩;have hz8:=hz7.below hb2 hz1;have hB2:=hbw.trans (hb2.mono hbw.size);have hz2:w.heap.size<w2.heap.size:=by have:=hb2.size;omega
      clear hb2 hz7 HSN HBS HI HN HL HD HS HCL hj9 hj1 hj hb hbw
      go_upto_region 21 with fail
      obtain⟨W3,hW3⟩:∃W3,w2.alloc (.cells #[je jg (setW (inRs rs) 0),je jg (setW (inRs rs) 1),je jg (setW (inRs rs) 2),je jg (setW (inRs rs) 3)] 41)=W3:=⟨_,rfl⟩;obtain⟨⟨d0,d1,d2,d3,d4,d5,d6⟩,hfr⟩:Zero7 w.heap.size W3:=by rw[<-hW3];exact hz8.below ((qaf _ _).alloc (qac _) _) hz2
      have HB3:Hid (Below w.heap.size w W3):=qaa (by rw[<-hW3];exact hB2.alloc U _);obtain⟨⟨c0,c1,c2,c3⟩,-⟩:Four w2.heap.size W3 (je jg (setW (inRs rs) 0)) (je jg (setW (inRs rs) 1)) (je jg (setW (inRs rs) 2)) (je jg (setW (inRs rs) 3)):=by rw[<-hW3];exact Four.new _ _ _ _ _ _
      rw[hW3];clear hW3 hz8 hB2 hz2 hz1;go_wp2;refine bodyPost_ret (v:=jk #[.agg #[je jd 13,je jd (k:Int),jh ⟨#[]⟩,je jg (setW (inRs rs) 0),je jg (setW (inRs rs) 1),je jg (setW (inRs rs) 2),je jg (setW (inRs rs) 3)],je jd ((k:Int)+1+(m:Int)),je jd (-1)]) (by simp[results,Tryz.results131,go_sem,d0,d1,d2,d3,d4,d5,d6]) rfl (TokIs.cls HQ.out U ?_);exact za8 HB3.out _ _ _ _ _ _ _
    ·have b91:=zav (d:=s[k].toNat) (k:=91) U
     by_cases hqt:s[k].toNat=39∨s[k].toNat=34
     ·obtain⟨i0,hi0,hy0,hy1,hy2⟩:=info_parts infoU8
      have HK:Hid (tokL k ((bts s).drop k)=(litE s[k].toNat ((bts s).drop (k+1))).map fun x=>(⟨12,k,x.1,[]⟩,k+1+x.2)):=qaa (by rw[HD.out];exact zda hqt);have HBB:=qaa hb;obtain⟨q,hqd⟩:∃q:Nat,s[k].toNat=q:=⟨_,rfl⟩;rw[hqd] at hqt;clear h91 hz7 hbw;rcases hqt with hq1|hq1
      all_goals
       subst hq1
       go_wp2_with fail
       go_loopw [13,14] (fun v c wr2=>∃(j:Nat) (acc:List Nat),k+1<=j/\j<=s.size/\c=je jd j/\wr2.ownsRow (w.heap.size+1) 5 1 v acc.length (u8s acc)/\Below (w.heap.size+1) (w.alloc (.cells #[je jd 0,je jd 0,jh ⟨#[]⟩,je jg 0,je jg 0,je jg 0,je jg 0] 169)) wr2/\acc.length<=j/\(∀x,x ∈ acc->x<256)/\litE s[k].toNat ((bts s).drop (k+1))=(litE s[k].toNat ((bts s).drop j)).map fun x=>(acc++x.1,(j-(k+1))+x.2)) (fun _ c _=>s.size-(intOf c).toNat)
       case atStart=>exact⟨k+1,[],qac _,hlt,rfl,World.ownsRow_nil _ _ _ _,HBB.out,Nat.zero_le _,(fun x hx=>nomatch hx),jc⟩
       case round=>
        obtain⟨i,acc,hi1,hi2,rfl,hs3,hb3,hac,hal,hu⟩:=hrel;have HU:=qaa hu;have HAL:=qaa hal;have hz9':=(Zero7.new w).below hb3 (qas _);obtain⟨⟨d0,d1,d2,d3,d4,d5,d6⟩,hfr⟩:=hz9';have hbw:Below w.heap.size w wr:=((qaf _ w).alloc (qac _) _).trans (hb3.mono U);have hsz:=hb3.size;have hsz1:w.heap.size<wr.heap.size:=by simp at hsz;omega
        clear hu hal hsz;by_cases hlj:i<s.size
        ·have hdj:=zas s i hlj
         have hlj':(i:Int)<(s.size:Int):=U
         by_cases hd:s[i].toNat=s[k].toNat
         ·have hr:tokL k ((bts s).drop k)=some (⟨12,k,acc,[]⟩,i+1):=by
           rw[HK.out,HU.out,hdj,hd,zff];simp;omega
          have HR:=qaa hr;have e1:¬(s.size:Int)<=(i:Int):=U
          clear hr hdj
          go_wp2_with fail
          go_quiet (fail);have hcv:=zqy (RowAt.of_owns (zab hs3 (zak (m:=nq) (qaf _ _))) (zg6 _)) HAL.out;go_wp2;refine bodyPost_ret (v:=jk #[.agg #[je jd 12,je jd (k:Int),jh (strOf acc),je jg 0,je jg 0,je jg 0,je jg 0],je jd ((i:Int)+1),je jd (-1)]) (by simp[results,Tryz.results131,go_sem,d0,d1,d2,d3,d4,d5,d6]) rfl (TokIs.plain HR.out rfl rfl U ?_);exact za8 (zak hbw) _ _ _ _ _ _ _
         ·have hdq:((s[i].toNat:Int) != (s[k].toNat:Int))=true:=by rw[bne_iff_ne];omega
          rw[hqd] at hdq;cases hr:rd (bts s) (i:Int) with
          |none=>
           have hr':tokL k ((bts s).drop k)=none:=by
            rw[zcn,hdj] at hr;rw[HK.out,HU.out,hdj,zf9 hr hd];rfl
           have HR:=qaa hr';have HDD:=qaa hr;clear hr hr' hdj hd
           go_wp2_with fail
           go_quiet (fail)
           go_wp2_with (go_at_call 150;(with_reducible refine(zlv s (i:Int) _ hs' HDD.out).mono ?_);rintro e w' ⟨rfl,m,rfl⟩)
           refine bodyPost_ret (v:=jk #[.agg #[je jd 0,je jd 0,jh ⟨#[]⟩,je jg 0,je jg 0,je jg 0,je jg 0],je jd 0,je jd (k:Int)]) (by simp[results,Tryz.results131,go_sem,d0,d1,d2,d3,d4,d5,d6]) rfl (TokIs.bad HR.out ?_);exact za8 (zak hbw) _ _ _ _ _ _ _
          |some x=>
           obtain⟨c,n⟩:=x;obtain⟨p0,p1,p2,p3⟩:=zdz hr;have hr':litE s[k].toNat ((bts s).drop (k+1))=(litE s[k].toNat ((bts s).drop (i+n))).map fun x=>((acc++[c])++x.1,(i+n-(k+1))+x.2):=by
            rw[zcn,hdj] at hr;rw[HU.out,hdj,zdj hr hd,<-hdj,List.drop_drop,zql];rw[show i-(k+1)+n=i+n-(k+1) by omega]
           have HR:=qaa hr';have HDD:=qaa hr;have hal2:Hid (∀x,x ∈ acc++[c]->x<256):=qaa (fun x hx=>by
            rcases List.mem_append.1 hx with h|h
            ·exact HAL.out x h
            ·rw[List.mem_singleton] at h;subst h;exact p3)
           have q0:¬(i:Int)+(n:Int)<0:=U
           have q1:(c:Int)<=255:=U
           clear hr hr' hdj hd p3 d0 d1 d2 d3 d4 d5 d6 hfr
           go_wp2_with fail
           go_quiet (fail);have hb1:=zak (m:=nq) hb3;have hs1:=zab hs3 (zak (m:=nq) (qaf _ _))
           go_wp2_with (first
            |(go_at_call 150;(with_reducible refine(zd9 s (i:Int) c n _ hs' HDD.out).mono ?_);rintro e w' ⟨rfl,m,rfl⟩;replace hs1:=zab hs1 (zak (m:=m) (qaf _ _));replace hb1:=zak (m:=m) hb1)
            |(at_builtin;refine wpList_append_own _ rfl _ _ 71 rfl (w.heap.size+1) 5 i0 (je .u8 0) 1 1 Tryz.underlying71 hi0 hy0 hy1 hy2 rfl ja _ _ _ rfl (hs1.alloc _) ⟨wr.heap.size,0,none⟩ 1 1 [je .u8 (c:Int)] rfl rfl (zat _ _ _) (by simp[Value.oneCell']) (by unfold maxLen;omega) U (by simp;omega) ?_;intro v' w2 hown' hgrow _))
           rw[World.drewN_drewN] at hb1 hs1;have hb2:=(hb1.alloc (by simp;omega) (.cells #[_] 5)).grown hgrow (by simp;omega) (fun k e=>(hs1.lt k e).1);rw[<-zqx] at hown';exact⟨⟨i+n,acc++[c],U,U,by go_num,by simpa using hown',hb2,by simp;omega,hal2.out,HR.out⟩,by simp[intOf];omega⟩
        ·have hr:tokL k ((bts s).drop k)=none:=by
          rw[HK.out,HU.out,qay (show(bts s).length<=i by rw[zaj];omega),zh7];rfl
         have HR:=qaa hr;have hlj':decide ((i:Int)<(s.size:Int))=false:=by rw[decide_eq_false_iff_not];omega
         have e1:(s.size:Int)<=(i:Int):=U
         clear hr
         go_wp2_with fail
         go_quiet (fail);go_wp2;refine bodyPost_ret (v:=jk #[.agg #[je jd 0,je jd 0,jh ⟨#[]⟩,je jg 0,je jg 0,je jg 0,je jg 0],je jd 0,je jd (k:Int)]) (by simp[results,Tryz.results131,go_sem,d0,d1,d2,d3,d4,d5,d6]) rfl (TokIs.bad HR.out ?_);exact za8 (zak hbw) _ _ _ _ _ _ _
     ·have hq:=zc3 (k:=k) HL.out HN.out HSN.out h91 hqt
      rw[<-HD.out] at hq;have HQ:=qaa hq;have f1:((s[k].toNat:Int) != 39)=true:=by rw[bne_iff_ne];omega
      have f2:((s[k].toNat:Int) != 34)=true:=by rw[bne_iff_ne];omega
      obtain⟨⟨d0,d1,d2,d3,d4,d5,d6⟩,hfr⟩:=hz7;clear hq hqt h91;go_wp2;refine bodyPost_ret (v:=jk #[.agg #[je jd 0,je jd 0,jh ⟨#[]⟩,je jg 0,je jg 0,je jg 0,je jg 0],je jd 0,je jd (k:Int)]) (by simp[results,Tryz.results131,go_sem,d0,d1,d2,d3,d4,d5,d6]) rfl (TokIs.bad HQ.out ?_);exact za8 hbw _ _ _ _ _ _ _
theorem zvu (s:ByteArray)(p k:Nat)(w:World)(hs:s.size<=1050000)(hk:k<=s.size)
  (HS:Hid (∀w,Calls qab 148 #[jh s,je jd (p:Int)] w fun e w'=>e=.returned (jk #[je jd (k:Int),ji true])/\w'=w)) :
  Calls qab 131 #[jh s,je jd (p:Int)] w (TokIs (tokL k ((bts s).drop k)) k w):=by
 have hs':s.size<=2000000:=U
 have HB:=qaa ((qaf w.heap.size w).alloc (qac _) (.cells #[je jd 0,je jd 0,jh ⟨#[]⟩,je jg 0,je jg 0,je jg 0,je jg 0] 169));by_cases hlt:k<s.size
 ·have hd:=zas s k hlt
  have e0:((k:Int) == (s.size:Int))=false:=by rw[beq_eq_false_iff_ne];omega
  cases hl:letB s[k].toNat true
  ·by_cases har:∃h2:k+1<s.size,s[k].toNat=60/\s[k+1].toNat=45
   ·obtain⟨h2,har⟩:=har
    exact zpo s p k w hs hlt HS hl h2 har
   ·exact zs3 s p k w hs hlt HS hl (fun h2 h=>har ⟨h2,h⟩)
  ·have hq:=zci (k:=k) (r:=(bts s).drop (k+1)) hl
   rw[<-hd] at hq;have HQ:=qaa hq;have HD:=qaa hd;have HL:=qaa hl;clear hq hd hl;go_enter Tryz.func131,Tryz.ntmps131
   go_wp2_with (go_at_call 148;(with_reducible refine(HS.out _).mono ?_);rintro e w' ⟨rfl,hw⟩;obtain rfl:=hw.symm;clear hw)
   go_loop [8] (fun c=>∃j:Nat,k<=j/\j<=s.size/\c=je jd j/\idL true ((bts s).drop k)=(j-k)+idL ((j:Int) == (k:Int)) ((bts s).drop j)) (fun c=>s.size-(intOf c).toNat)
   case atStart=>exact⟨k,qac _,hk,rfl,jc⟩
   case round=>
    obtain⟨j,hj1,hj,rfl,hi⟩:=hrel;have HI:=qaa hi;clear hi;have fin:idL true ((bts s).drop k)=j-k->tokL k ((bts s).drop k)=some (⟨1,k,((bts s).drop k).take (j-k),[]⟩,j):=fun e=>by
     rw[HQ.out,e,Nat.add_sub_cancel' hj1]
    have HF:=qaa fin;clear fin;by_cases hltj:j<s.size
    ·have hdj:=zas s j hltj
     have hltj':(j:Int)<(s.size:Int):=U
     cases hl:letB s[j].toNat ((j:Int) == (k:Int))
     ·have hz:idL true ((bts s).drop k)=j-k:=by rw[HI.out,hdj,zex hl];rfl
      have hjk:k<j:=by
       rcases Nat.lt_or_ge k j with h|h
       ·exact h
       ·obtain rfl:k=j:=U
        rw[show((k:Int) == (k:Int))=true by simp] at hl;rw[HL.out] at hl;cases hl
      have hjk':(k:Int)<(j:Int):=U
      have HT:=qaa (HF.out hz);have HJ:=qaa hl;clear hdj hl hz
      go_wp2_with (go_at_call 114;refine(zea _ _ false _ HJ.out).mono ?_;rintro e w' ⟨rfl,hw⟩;obtain rfl:=hw.symm;clear hw)
      refine bodyPost_ret (v:=jk #[.agg #[je jd 1,je jd (k:Int),jh (s.extract k j),je jg 0,je jg 0,je jg 0,je jg 0],je jd (j:Int),je jd (-1)]) (by simp[results,Tryz.results131,go_sem]) rfl (TokIs.plain HT.out rfl (zgk s k j) rfl ?_);exact(qaf _ w).alloc (qac _) _
     ·have hz:idL true ((bts s).drop k)=(j+1-k)+idL (((j+1:Nat):Int) == (k:Int)) ((bts s).drop (j+1)):=by
       have e1:(((j+1:Nat):Int) == (k:Int))=false:=by rw[beq_eq_false_iff_ne];omega
       rw[HI.out,hdj,zbu hl,e1];omega
      have HZ:=qaa hz;have HJ:=qaa hl;clear hdj hl hz
      go_wp2_with (go_at_call 114;refine(zea _ _ true _ HJ.out).mono ?_;rintro e w' ⟨rfl,hw⟩;obtain rfl:=hw.symm;clear hw)
      go_round
      case rel=>exact⟨j+1,U,U,by go_num,HZ.out⟩
      case measure=>simp[intOf];omega
    ·have hz:idL true ((bts s).drop k)=j-k:=by rw[HI.out,qay (show(bts s).length<=j by rw[zaj];omega)];rfl
     have HT:=qaa (HF.out hz);have hjk':(k:Int)<(j:Int):=U
     clear hz;go_wp2;refine bodyPost_ret (v:=jk #[.agg #[je jd 1,je jd (k:Int),jh (s.extract k j),je jg 0,je jg 0,je jg 0,je jg 0],je jd (j:Int),je jd (-1)]) (by simp[results,Tryz.results131,go_sem]) rfl (TokIs.plain HT.out rfl (zgk s k j) rfl ?_);exact(qaf _ w).alloc (qac _) _
 ·have hz:tokL k ((bts s).drop k)=some (⟨0,k,[],[]⟩,k):=by rw[qay (by rw[zaj];omega)];rfl
  have HZ:=qaa hz;have e0:((k:Int) == (s.size:Int))=true:=by rw[beq_iff_eq];omega
  clear hz;go_enter Tryz.func131,Tryz.ntmps131
  go_wp2_with (go_at_call 148;(with_reducible refine(HS.out _).mono ?_);rintro e w' ⟨rfl,hw⟩;obtain rfl:=hw.symm;clear hw)
  refine bodyPost_ret (v:=jk #[.agg #[je jd 0,je jd (k:Int),jh ⟨#[]⟩,je jg 0,je jg 0,je jg 0,je jg 0],je jd (k:Int),je jd (-1)]) (by simp[results,Tryz.results131,go_sem]) rfl (TokIs.plain HZ.out rfl rfl rfl ?_);exact(qaf _ w).alloc (qac _) _
def NextIs (o:Except Nat (Tok × Nat))(w:World)(e:Ending)(w':World):Prop:=
 match o with
 |.ok (t,n)=>e=.returned (jk #[tokV t,je jd (n:Int),je jd (-1)])/\Below w.heap.size w w'
 |.error k=>e=.returned (jk #[tok0,je jd 0,je jd (k:Int)])/\Below w.heap.size w w'
theorem NextIs.bad {o:Except Nat (Tok × Nat)}{x:Int}(h:o=.error k)(hx:x=k)(hb:Below w.heap.size w w') :
  NextIs o w (.returned (jk #[.agg #[je jd 0,je jd 0,jh ⟨#[]⟩,je jg 0,je jg 0,je jg 0,je jg 0],je jd 0,je jd x])) w':=by
 subst h hx;exact⟨rfl,hb⟩
theorem znj (s:ByteArray)(p:Nat)(w:World)(hs:s.size<=1050000)(hp:p<=s.size) :
  Calls qab 131 #[jh s,je jd (p:Int)] w (NextIs (nextL (bts s) p) w):=by
 have hs':s.size<=2000000:=U
 have hle:=zel _ ((bts s).drop p) (qac _);rw[List.length_drop,zaj] at hle;cases hok:(skipL ((bts s).drop p)).2
 ·have hq:nextL (bts s) p=.error (p+(skipL ((bts s).drop p)).1):=by unfold nextL;rw[hok];rfl
  generalize hk:(skipL ((bts s).drop p)).1=n at hq hle;have hsk:∀w,Calls qab 148 #[jh s,je jd (p:Int)] w fun e w'=>e=.returned (jk #[je jd ((p+n:Nat):Int),ji false])/\w'=w:=fun w=>by
   have:=zni s p w hs' hp;unfold SkipIs at this;rw[hok,hk] at this;exact this
  have HS:=qaa hsk;have HQ:=qaa hq;clear hsk hok hk hq;go_enter Tryz.func131,Tryz.ntmps131
  go_wp2_with (go_at_call 148;(with_reducible refine(HS.out _).mono ?_);rintro e w' ⟨rfl,hw⟩;obtain rfl:=hw.symm;clear hw)
  refine bodyPost_ret (v:=jk #[.agg #[je jd 0,je jd 0,jh ⟨#[]⟩,je jg 0,je jg 0,je jg 0,je jg 0],je jd 0,je jd ((p:Int)+(n:Int))]) (by simp[results,Tryz.results131,go_sem]) rfl (NextIs.bad HQ.out U ?_);exact(qaf _ w).alloc (qac _) _
 ·generalize hk:(skipL ((bts s).drop p)).1=n at hle
  have hsk:∀w,Calls qab 148 #[jh s,je jd (p:Int)] w fun e w'=>e=.returned (jk #[je jd ((p+n:Nat):Int),ji true])/\w'=w:=fun w=>by
   have:=zni s p w hs' hp;unfold SkipIs at this;rw[hok,hk] at this;exact this
  have h:=zvu s p (p+n) w hs U (qaa hsk);have hq:nextL (bts s) p=match tokL (p+n) ((bts s).drop (p+n)) with|some x=>.ok x|none=>.error (p+n):=by
   unfold nextL;rw[hok,hk];rfl
  rw[hq];refine h.mono fun e w' hh=>?_
  cases ht:tokL (p+n) ((bts s).drop (p+n)) with
  |none=>rw[ht] at hh;exact hh
  |some x=>rw[ht] at hh;exact hh
def tokC (t:Tok):List Value:=[je jd (t.kind:Int),je jd (t.at_:Int),jh (strOf t.text),je jg (setW (inRs t.rs) 0),je jg (setW (inRs t.rs) 1),je jg (setW (inRs t.rs) 2),je jg (setW (inRs t.rs) 3)]
theorem z36:(qab.info? 169).map (fun i=>(i.zero,i.size,i.bytes))=some (some (.agg #[je jd 0,je jd 0,jh ⟨#[]⟩,je jg 0,je jg 0,je jg 0,je jg 0]),7,64):=jb
theorem zvv (s:ByteArray)(p k:Nat)(w:World)(hs:s.size<=1050000)(hp:p<=s.size)(h:nextL (bts s) p=.error k) :
  Calls qab 131 #[jh s,je jd (p:Int)] w fun e w'=>e=.returned (jk #[.agg #[je jd 0,je jd 0,jh ⟨#[]⟩,je jg 0,je jg 0,je jg 0,je jg 0],je jd 0,je jd (k:Int)])/\Below w.heap.size w w':=by
 have:=znj s p w hs hp;unfold NextIs at this;rw[h] at this;exact this
theorem zrd (s:ByteArray)(p:Nat)(t:Tok)(n:Nat)(w:World)(hs:s.size<=1050000)(hp:p<=s.size)(h:nextL (bts s) p=.ok (t,n)) :
  Calls qab 131 #[jh s,je jd (p:Int)] w fun e w'=>e=.returned (jk #[.agg #[je jd (t.kind:Int),je jd (t.at_:Int),jh (strOf t.text),je jg (setW (inRs t.rs) 0),je jg (setW (inRs t.rs) 1),je jg (setW (inRs t.rs) 2),je jg (setW (inRs t.rs) 3)],je jd (n:Int),je jd (-1)])/\Below w.heap.size w w':=by
 have:=znj s p w hs hp;unfold NextIs at this;rw[h] at this;exact this
theorem zj1 (w:World)(l:List Value)(t:TypeId):∀j u,l[j]?=some u->(w.alloc (.cells l.toArray t)).cell? ((⟨w.heap.size,0,none⟩:Addr).add j)=some u:=by
 intro j u hj;rw[Addr.add_lit];have hb:(w.alloc (.cells l.toArray t)).heap[w.heap.size]?=some (.cells l.toArray t):=heap_alloc_new w _;rw[Nat.zero_add,qdi hb];simpa using hj
theorem zcd (w:World)(o:Obj)(l:List Value)(t:TypeId):∀j u,l[j]?=some u->((w.alloc o).alloc (.cells l.toArray t)).cell? ((⟨w.heap.size+1,0,none⟩:Addr).add j)=some u:=by
 have:=zj1 (w.alloc o) l t;rw[qbl] at this;exact this
theorem zii {w1 w2:World}{l:Array Value}{t:TypeId}{o:Obj}{v x:Value}{base:Nat}{xs:List Value}(hs1:w1.ownsRow base t 7 v n xs)(hg:((w1.alloc (.cells l t)).alloc o).grownBy w2 v.ownBlock)(h0:l[0]?=some x):w2.cell? ⟨w1.heap.size,0,none⟩=some x:=by
 have h1:((w1.alloc (.cells l t)).alloc o).heap[w1.heap.size]?=some (.cells l t):=by
  rw[Below.heap_alloc _ _ _ (by rw[qbl];exact qas _)];exact heap_alloc_new w1 _
 have h2:w2.heap[w1.heap.size]?=some (.cells l t):=by
  rw[hg.block _ (by rw[qbl,qbl];omega) (fun e=>by have:=(hs1.lt _ e.symm).2;omega)];exact h1
 rw[qdi h2];exact h0
