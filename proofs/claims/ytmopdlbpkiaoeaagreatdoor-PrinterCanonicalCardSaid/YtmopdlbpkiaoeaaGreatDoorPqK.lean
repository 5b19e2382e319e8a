/- The program's Next and Tokens. What the laws of the syntax need of the plain functions. No walk. The fixed examples of the syntax. No walk. -/
import Derived.Test.YtmopdlbpkiaoeaaGreatDoorPqJ
import Derived.Test.YtmopdlbpkiaoeaaGreatDoorPqC
import Derived.Test.YtmopdlbpkiaoeaaGreatDoorPqI
set_option maxRecDepth 100000
set_option maxHeartbeats 4000000
open Go.IntKind renaming i64->jd, u64->jg
open Go.Value renaming int->je, string->jh, bool->ji, tuple->jk
namespace Go.Proofs.YtmopdlbpkiaoeaaGreatDoor
open Go.Lib renaming hid->qaa
open Go.Proofs.Tryz renaming prog->qab, results75->qeg
open Go.Proofs.YtmopdlbpkiaoeaaGreatDoor.Zero7 renaming new2->qdz
open Go.World renaming frozen?_setCell->qbv
open List renaming drop_drop->qb1, length_append->qad, length_cons->qah, length_drop->qa2, length_singleton->qai
open Nat renaming le_of_lt->qdb, le_refl->qac, lt_of_lt_of_le->qaz
open Option renaming map_eq_some_iff->qa1
variable {st:Bool}{w w':World}
section
open Go.RowKit
theorem zzt (s:ByteArray)(k:Nat)(w:World)(hs:s.size<=1050000)(hlt:k<s.size)(hq:s[k].toNat=39∨s[k].toNat=34) :
  Calls qab 75 #[jh s,je jd (k:Int)] w (PTokIs (tokL k ((bts s).drop k)) w):=by
 have hlt':(k:Int)<(s.size:Int):=U
 have hk:tokL k ((bts s).drop k)=(litE s[k].toNat ((bts s).drop (k+1))).map fun x=>(⟨12,k,x.1,[]⟩,k+1+x.2):=by rw[zas s k hlt];exact zda hq
 have hc:=zpu s k;obtain⟨q,hqd⟩:∃q,s[k].toNat=q:=⟨_,rfl⟩;rw[hqd] at hk hq;cases hr:litE q ((bts s).drop (k+1)) with
 |none=>
  rw[hr] at hk;have HQ:Hid (tokL k ((bts s).drop k)=none):=qaa hk;have hc':∀w,Calls qab 100 #[jh s,je jd (k:Int)] w fun e w'=>e=.returned (jk #[.agg #[je jd 0,je jd 0,jh ⟨#[]⟩,je jg 0,je jg 0,je jg 0,je jg 0],je jd 0,ji false])/\Below w.heap.size w w':=fun w=>by
   have h:=hc w hs hlt;rw[hqd,hr] at h;exact h
  have HC:=qaa hc';clear hc hc' hk hr;rcases hq with hq|hq
  all_goals
   subst hq;go_enter Tryz.func75,Tryz.ntmps75
   go_wp2_with (go_at_call 100;(with_reducible refine(HC.out _).mono ?_);rintro e w2 ⟨rfl,hb⟩;obtain⟨⟨d0,d1,d2,d3,d4,d5,d6⟩,hfr⟩:=(qdz w).below hb (by rw[zbd];omega);have HB:=qaa ((ze7 w).trans (hb.mono (by rw[zbd];omega)));clear hb)
   refine bodyPost_ret (v:=jk #[.agg #[je jd 0,je jd 0,jh ⟨#[]⟩,je jg 0,je jg 0,je jg 0,je jg 0],je jd 0,ji false]) (by simp[results,qeg,go_sem,d0,d1,d2,d3,d4,d5,d6]) rfl (PTokIs.no HQ.out ?_);exact za8 HB.out _ _ _ _ _ _ _
 |some x=>
  obtain⟨l,m⟩:=x;rw[hr] at hk;have HQ:Hid (tokL k ((bts s).drop k)=some (⟨12,k,l,[]⟩,k+1+m)):=qaa hk;have hc':∀w,Calls qab 100 #[jh s,je jd (k:Int)] w fun e w'=>e=.returned (jk #[.agg #[je jd 12,je jd 0,jh (strOf l),je jg 0,je jg 0,je jg 0,je jg 0],je jd ((k+1+m:Nat):Int),ji true])/\Below w.heap.size w w':=fun w=>by
   have h:=hc w hs hlt;rw[hqd,hr] at h;exact h
  obtain⟨n,hn⟩:∃n:Nat,k+1+m=n:=⟨_,rfl⟩;rw[hn] at hc' HQ;have HC:=qaa hc';clear hc hc' hk hr hn;rcases hq with hq|hq
  all_goals
   subst hq;go_enter Tryz.func75,Tryz.ntmps75
   go_wp2_with (go_at_call 100;(with_reducible refine(HC.out _).mono ?_);rintro e w2 ⟨rfl,hb⟩;obtain⟨⟨d0,d1,d2,d3,d4,d5,d6⟩,hfr⟩:=(qdz w).below hb (by rw[zbd];omega);have HB:=qaa ((ze7 w).trans (hb.mono (by rw[zbd];omega)));clear hb)
   refine bodyPost_ret (v:=jk #[.agg #[je jd 12,je jd 0,jh (strOf l),je jg 0,je jg 0,je jg 0,je jg 0],je jd (n:Int),ji true]) (by simp[results,qeg,go_sem,d0,d1,d2,d3,d4,d5,d6]) rfl (PTokIs.plain HQ.out rfl rfl rfl ?_);exact za8 HB.out _ _ _ _ _ _ _
theorem zzu (s:ByteArray)(k:Nat)(w:World)(hs:s.size<=1050000)(hlt:k<s.size)(hS:SignsAt w) :
  Calls qab 75 #[jh s,je jd (k:Int)] w (PTokIs (tokL k ((bts s).drop k)) w):=by
 by_cases hq:s[k].toNat=39∨s[k].toNat=34
 ·exact zzt s k w hs hlt hq
 ·by_cases h91:s[k].toNat=91
  ·exact zzs s k w hs hlt h91
  ·cases hl:letB s[k].toNat true
   ·exact zv6 s k w hs hlt hS hl h91 U U
   ·exact zv4 s k w hs hlt hl h91 U U
theorem z4d (k:Nat)(l:List Nat)(t:Tok)(n:Nat)(h:tokL k l=some (t,n)):t.at_=k:=by
 cases l with
 |nil=>rw[zcp] at h;cases h;rfl
 |cons c r=>
  rw[zdk] at h;split at h
  ·cases h;rfl
  ·split at h
   ·cases h;rfl
   ·split at h
    ·cases h;rfl
    ·split at h
     ·obtain⟨x,-,e⟩:=qa1.1 h;cases e;rfl
     ·split at h
      ·obtain⟨x,-,e⟩:=qa1.1 h;cases e;rfl
      ·cases h
theorem zf0:∀(n:Nat) (l:List Nat),l.length<=n->(skipL l).2=false->∃r,l.drop (skipL l).1=35::r
 |_,[],_,h=>by rw[zc5] at h;cases h
 |0,c::r,h,_=>absurd h (by rw[qah];omega)
 |n+1,c::r,hn,h=>by
  rw[qah] at hn;by_cases h1:c=32∨c=9∨c=10∨c=13
  ·rw[zbf h1] at h ⊢
   exact zf0 n r U h
  ·by_cases h2:c=35
   ·subst h2
    cases hc:comL r with
    |none=>rw[zew hc];exact⟨r,rfl⟩
    |some m=>
     rw[zd3 hc] at h ⊢;have h3:=zis _ _ hc;obtain⟨q,hq⟩:=zf0 n (r.drop m) (by rw[qa2];omega) h;rw[qb1] at hq;refine⟨q,?_⟩;rw[<-hq];show List.drop ((skipL (r.drop m)).1+(m+1)) (35::r)=_;rw[show(skipL (r.drop m)).1+(m+1)=(m+(skipL (r.drop m)).1)+1 by omega,List.drop_succ_cons]
   ·rw[zbg h1 h2] at h;cases h
theorem zb4 (l:List Nat)(p:Nat):nextL l p=match tokL (p+(skipL (l.drop p)).1) (l.drop (p+(skipL (l.drop p)).1)) with|some x=>.ok x|none=>.error (p+(skipL (l.drop p)).1):=by
 unfold nextL;cases h:(skipL (l.drop p)).2
 ·obtain⟨r,hr⟩:=zf0 _ _ (qac _) h
  rw[qb1] at hr;rw[hr,zc3 ja (fun e=>absurd e.1 ja) ja ja ja];rfl
 ·rfl
def PNextIs (o:Except Nat (Tok × Nat))(w:World)(e:Ending)(w':World):Prop:=
 match o with
 |.ok (t,n)=>e=.returned (jk #[.agg #[je jd (t.kind:Int),je jd (t.at_:Int),jh (strOf t.text),je jg (setW (inRs t.rs) 0),je jg (setW (inRs t.rs) 1),je jg (setW (inRs t.rs) 2),je jg (setW (inRs t.rs) 3)],je jd (n:Int),.nilIface])/\Below w.heap.size w w'
 |.error k=>e=.returned (jk #[.agg #[je jd 0,je jd 0,jh ⟨#[]⟩,je jg 0,je jg 0,je jg 0,je jg 0],je jd 0,.iface 160 (.agg #[je jd 1,je jd (k:Int)])])/\Below w.heap.size w w'
theorem PNextIs.bad {o:Except Nat (Tok × Nat)}{k:Nat}(h:o=.error k)(hb:Below w.heap.size w w') :
  PNextIs o w (.returned (jk #[.agg #[je jd 0,je jd 0,jh ⟨#[]⟩,je jg 0,je jg 0,je jg 0,je jg 0],je jd 0,.iface 160 (.agg #[je jd 1,je jd (k:Int)])])) w':=by
 subst h;exact⟨rfl,hb⟩
theorem PNextIs.good {o:Except Nat (Tok × Nat)}{n a k:Nat}{x:List Nat}{rs:List (Nat × Nat)}(h:o=.ok (⟨a,k,x,rs⟩,n))(hb:Below w.heap.size w w') :
  PNextIs o w (.returned (jk #[.agg #[je jd (a:Int),je jd (k:Int),jh (strOf x),je jg (setW (inRs rs) 0),je jg (setW (inRs rs) 1),je jg (setW (inRs rs) 2),je jg (setW (inRs rs) 3)],je jd (n:Int),.nilIface])) w':=by
 subst h;exact⟨rfl,hb⟩
theorem PNextIs.fin {o:Except Nat (Tok × Nat)}{k:Nat}(h:o=.ok (⟨0,k,[],[]⟩,k))(hb:Below w.heap.size w w') :
  PNextIs o w (.returned (jk #[.agg #[je jd 0,je jd (k:Int),jh ⟨#[]⟩,je jg 0,je jg 0,je jg 0,je jg 0],je jd (k:Int),.nilIface])) w':=by
 subst h;refine⟨?_,hb⟩;simp only[zc6];rfl
def Tok7 (B:Nat)(a b c d e f g:Value)(w:World):Prop:=
 (w.cell? ⟨B,0,none⟩=some a/\w.cell? ⟨B,1,none⟩=some b/\w.cell? ⟨B,2,none⟩=some c/\w.cell? ⟨B,3,none⟩=some d/\w.cell? ⟨B,4,none⟩=some e/\w.cell? ⟨B,5,none⟩=some f/\w.cell? ⟨B,6,none⟩=some g)/\∀o,w.frozen? ⟨B,o,none⟩=false
theorem Tok7.of {B:Nat}(h:Zero7 B w):Tok7 B (je jd 0) (je jd 0) (jh ⟨#[]⟩) (je jg 0) (je jg 0) (je jg 0) (je jg 0) w:=h
theorem Tok7.stored {B:Nat}{a b c d e f g:Value}(h:Tok7 B a b c d e f g w)(a' b' c' d' e' f' g':Value) :
  Tok7 B a' b' c' d' e' f' g' (((((((w.setCell ⟨B,0,none⟩ a').setCell ⟨B,1,none⟩ b').setCell ⟨B,2,none⟩ c').setCell ⟨B,3,none⟩ d').setCell ⟨B,4,none⟩ e').setCell ⟨B,5,none⟩ f').setCell ⟨B,6,none⟩ g'):=by
 obtain⟨⟨h0,h1,h2,h3,h4,h5,h6⟩,hf⟩:=h;refine⟨⟨?_,?_,?_,?_,?_,?_,?_⟩,fun o=>?_⟩
 ·rw[cso ja,cso ja,cso ja,cso ja,cso ja,cso ja];exact css h0
 ·rw[cso ja,cso ja,cso ja,cso ja,cso ja];exact css (by rw[cso ja];exact h1)
 ·rw[cso ja,cso ja,cso ja,cso ja];exact css (by rw[cso ja,cso ja];exact h2)
 ·rw[cso ja,cso ja,cso ja];exact css (by rw[cso ja,cso ja,cso ja];exact h3)
 ·rw[cso ja,cso ja];exact css (by rw[cso ja,cso ja,cso ja,cso ja];exact h4)
 ·rw[cso ja];exact css (by rw[cso ja,cso ja,cso ja,cso ja,cso ja];exact h5)
 ·exact css (by rw[cso ja,cso ja,cso ja,cso ja,cso ja,cso ja];exact h6)
 ·simp only[qbv];exact hf o
theorem znr (s:ByteArray)(p:Nat)(w:World)(hs:s.size<=1050000)(hp:p<=s.size)(hS:SignsAt w) :
  Calls qab 44 #[jh s,je jd (p:Int)] w (PNextIs (nextL (bts s) p) w):=by
 have hp1:¬(p:Int)<0:=U
 have hp2:decide ((s.size:Int)<(p:Int))=false:=by rw[decide_eq_false_iff_not];omega
 have hn:=zb4 (bts s) p;have hle:=zel _ ((bts s).drop p) (qac _);rw[qa2,zaj] at hle;have hsk:∀w,Calls qab 74 #[jh s,je jd (p:Int)] w fun e w'=>e=.returned (je jd ((p+(skipL ((bts s).drop p)).1:Nat):Int))/\Below w.heap.size w w':=fun w=>zze s p w U hp
 obtain⟨k,hk⟩:∃k,p+(skipL ((bts s).drop p)).1=k:=⟨_,rfl⟩;rw[hk] at hn hsk;have hks:k<=s.size:=U
 have HSK:=qaa hsk;have HSG:=qaa hS;clear hsk hk hle hS;by_cases hlt:k<s.size
 ·have e1:((k:Int) == (s.size:Int))=false:=by rw[beq_eq_false_iff_ne];omega
  have hT:∀w,SignsAt w->Calls qab 75 #[jh s,je jd (k:Int)] w (PTokIs (tokL k ((bts s).drop k)) w):=fun w h=>zzu s k w hs hlt h
  cases ht:tokL k ((bts s).drop k) with
  |none=>
   rw[ht] at hT hn;have HN:Hid (nextL (bts s) p=.error k):=qaa hn;have hT':∀w,SignsAt w->Calls qab 75 #[jh s,je jd (k:Int)] w fun e w'=>e=.returned (jk #[.agg #[je jd 0,je jd 0,jh ⟨#[]⟩,je jg 0,je jg 0,je jg 0,je jg 0],je jd 0,ji false])/\Below w.heap.size w w':=fun w h=>hT w h
   have HT:=qaa hT';clear hT hT' hn ht;go_enter Tryz.func44,Tryz.ntmps44
   go_upto_region 7 with(first
    |(go_at_call 74;(with_reducible refine(HSK.out _).mono ?_);rintro e w2 ⟨rfl,hb⟩;have hz2:=(qdz w).below hb (by rw[zbd];omega);have HB:=qaa ((ze7 w).trans (hb.mono (by rw[zbd];omega)));have hsz2:w.heap.size<w2.heap.size:=qaz (by rw[zbd];omega) hb.size;clear hb)
    |(go_at_call 75;(with_reducible refine(HT.out _ (HSG.out.kept HB.out (qac _))).mono ?_);rintro e w3 ⟨rfl,hb⟩;have HZ3:=qaa (hz2.below hb hsz2);obtain⟨⟨d0,d1,d2,d3,d4,d5,d6⟩,hfr⟩:=HZ3.out;have HB3:=qaa (HB.out.trans (hb.mono (qdb hsz2)));clear hb hz2))
   have ht4:=(Tok7.of HZ3.out).stored (je jd 0) (je jd 0) (jh ⟨#[]⟩) (je jg 0) (je jg 0) (je jg 0) (je jg 0);have hb4:=za8 HB3.out (je jd 0) (je jd 0) (jh ⟨#[]⟩) (je jg 0) (je jg 0) (je jg 0) (je jg 0);generalize (((((((w3.setCell ⟨w.heap.size,0,none⟩ (je jd 0)).setCell ⟨w.heap.size,1,none⟩ (je jd 0)).setCell ⟨w.heap.size,2,none⟩ (jh ⟨#[]⟩)).setCell ⟨w.heap.size,3,none⟩ (je jg 0)).setCell ⟨w.heap.size,4,none⟩ (je jg 0)).setCell ⟨w.heap.size,5,none⟩ (je jg 0)).setCell ⟨w.heap.size,6,none⟩ (je jg 0))=W4 at ht4 hb4 ⊢;have HB4:=qaa hb4;clear d0 d1 d2 d3 d4 d5 d6 hfr HZ3 HB3 HB hb4;obtain⟨⟨d0,d1,d2,d3,d4,d5,d6⟩,hfr⟩:=ht4
   go_wp2_with (go_at_call 73;(with_reducible refine(zvc _ _ _).mono ?_);rintro e w' ⟨rfl,hw⟩;obtain rfl:=hw.symm;clear hw)
   refine bodyPost_ret (v:=jk #[.agg #[je jd 0,je jd 0,jh ⟨#[]⟩,je jg 0,je jg 0,je jg 0,je jg 0],je jd 0,.iface 160 (.agg #[je jd 1,je jd (k:Int)])]) (by simp[results,Tryz.results44,go_sem,d0,d1,d2,d3,d4,d5,d6]) rfl (PNextIs.bad HN.out ?_);exact za8 HB4.out _ _ _ _ _ _ _
  |some x=>
   obtain⟨⟨a,k',x,rs⟩,n⟩:=x;obtain rfl:k'=k:=z4d _ _ _ _ ht;rw[ht] at hT hn;have HN:Hid (nextL (bts s) p=.ok (⟨a,k',x,rs⟩,n)):=qaa hn;obtain⟨st,hst⟩:∃st,strOf x=st:=⟨_,rfl⟩;obtain⟨s0,hs0⟩:∃y,setW (inRs rs) 0=y:=⟨_,rfl⟩;obtain⟨s1,hs1⟩:∃y,setW (inRs rs) 1=y:=⟨_,rfl⟩;obtain⟨s2,hs2⟩:∃y,setW (inRs rs) 2=y:=⟨_,rfl⟩;obtain⟨s3,hs3⟩:∃y,setW (inRs rs) 3=y:=⟨_,rfl⟩;have hT':∀w,SignsAt w->Calls qab 75 #[jh s,je jd (k':Int)] w fun e w'=>e=.returned (jk #[.agg #[je jd (a:Int),je jd 0,jh st,je jg s0,je jg s1,je jg s2,je jg s3],je jd (n:Int),ji true])/\Below w.heap.size w w':=fun w h=>by
    rw[<-hst,<-hs0,<-hs1,<-hs2,<-hs3];exact hT w h
   have HT:=qaa hT';have HG:Hid (∀w',Below w.heap.size w w'->PNextIs (nextL (bts s) p) w (.returned (jk #[.agg #[je jd (a:Int),je jd (k':Int),jh st,je jg s0,je jg s1,je jg s2,je jg s3],je jd (n:Int),.nilIface])) w'):=qaa (fun w' hb=>by rw[<-hst,<-hs0,<-hs1,<-hs2,<-hs3];exact PNextIs.good HN.out hb);clear hT hT' hn ht hst hs0 hs1 hs2 hs3;go_enter Tryz.func44,Tryz.ntmps44
   go_upto_region 7 with(first
    |(go_at_call 74;(with_reducible refine(HSK.out _).mono ?_);rintro e w2 ⟨rfl,hb⟩;have hz2:=(qdz w).below hb (by rw[zbd];omega);have HB:=qaa ((ze7 w).trans (hb.mono (by rw[zbd];omega)));have hsz2:w.heap.size<w2.heap.size:=qaz (by rw[zbd];omega) hb.size;clear hb)
    |(go_at_call 75;(with_reducible refine(HT.out _ (HSG.out.kept HB.out (qac _))).mono ?_);rintro e w3 ⟨rfl,hb⟩;have HZ3:=qaa (hz2.below hb hsz2);obtain⟨⟨d0,d1,d2,d3,d4,d5,d6⟩,hfr⟩:=HZ3.out;have HB3:=qaa (HB.out.trans (hb.mono (qdb hsz2)));clear hb hz2))
   have ht4:=(Tok7.of HZ3.out).stored (je jd (a:Int)) (je jd 0) (jh st) (je jg s0) (je jg s1) (je jg s2) (je jg s3);have hb4:=za8 HB3.out (je jd (a:Int)) (je jd 0) (jh st) (je jg s0) (je jg s1) (je jg s2) (je jg s3);generalize (((((((w3.setCell ⟨w.heap.size,0,none⟩ (je jd (a:Int))).setCell ⟨w.heap.size,1,none⟩ (je jd 0)).setCell ⟨w.heap.size,2,none⟩ (jh st)).setCell ⟨w.heap.size,3,none⟩ (je jg s0)).setCell ⟨w.heap.size,4,none⟩ (je jg s1)).setCell ⟨w.heap.size,5,none⟩ (je jg s2)).setCell ⟨w.heap.size,6,none⟩ (je jg s3))=W4 at ht4 hb4 ⊢;have HB4:=qaa hb4;have HT4:=qaa ht4;clear d0 d1 d2 d3 d4 d5 d6 hfr HZ3 HB3 HB hb4 ht4;obtain⟨⟨d0,d1,d2,d3,d4,d5,d6⟩,hfr⟩:=HT4.out
   go_upto_region 10 with fail
   have ht5:Tok7 w.heap.size (je jd (a:Int)) (je jd (k':Int)) (jh st) (je jg s0) (je jg s1) (je jg s2) (je jg s3) (W4.setCell ⟨w.heap.size,1,none⟩ (je jd (k':Int))):=
    ⟨⟨by rw[cso ja];exact d0,css d1,by rw[cso ja];exact d2,by rw[cso ja];exact d3,by rw[cso ja];exact d4,by rw[cso ja];exact d5,by rw[cso ja];exact d6⟩,fun o=>by rw[qbv];exact hfr o⟩
   have hb5:Below w.heap.size w (W4.setCell ⟨w.heap.size,1,none⟩ (je jd (k':Int))):=HB4.out.setCell (p:=⟨w.heap.size,1,none⟩) (qac _) _;generalize W4.setCell ⟨w.heap.size,1,none⟩ (je jd (k':Int))=W5 at ht5 hb5 ⊢;have HB5:=qaa hb5;clear d0 d1 d2 d3 d4 d5 d6 hfr HT4 HB4 hb5;obtain⟨⟨d0,d1,d2,d3,d4,d5,d6⟩,hfr⟩:=ht5;go_wp2;refine bodyPost_ret (v:=jk #[.agg #[je jd (a:Int),je jd (k':Int),jh st,je jg s0,je jg s1,je jg s2,je jg s3],je jd (n:Int),.nilIface]) (by simp[results,Tryz.results44,go_sem,d0,d1,d2,d3,d4,d5,d6]) rfl (HG.out _ ?_);exact za8 HB5.out _ _ _ _ _ _ _
 ·have hks':k=s.size:=U
  have e1:((k:Int) == (s.size:Int))=true:=by rw[beq_iff_eq];omega
  have hn':nextL (bts s) p=.ok (⟨0,k,[],[]⟩,k):=by
   rw[hn,List.drop_eq_nil_of_le (by rw[zaj];omega),zcp]
  have HN:=qaa hn';clear hn hn' hks';go_enter Tryz.func44,Tryz.ntmps44
  go_wp2_with (go_at_call 74;(with_reducible refine(HSK.out _).mono ?_);rintro e w2 ⟨rfl,hb⟩;obtain⟨⟨d0,d1,d2,d3,d4,d5,d6⟩,hfr⟩:=(qdz w).below hb (by rw[zbd];omega);have HB:=qaa ((ze7 w).trans (hb.mono (by rw[zbd];omega)));clear hb)
  refine bodyPost_ret (v:=jk #[.agg #[je jd 0,je jd (k:Int),jh ⟨#[]⟩,je jg 0,je jg 0,je jg 0,je jg 0],je jd (k:Int),.nilIface]) (by simp[results,Tryz.results44,go_sem,d0,d1,d2,d3,d4,d5,d6]) rfl (PNextIs.fin HN.out ?_);exact za8 HB.out _ _ _ _ _ _ _
end
section
open Go.RowKit
theorem zgn (s:ByteArray)(p k:Nat)(w:World)(hs:s.size<=1050000)(hp:p<=s.size)(hS:SignsAt w)(h:nextL (bts s) p=.error k) :
  Calls qab 44 #[jh s,je jd (p:Int)] w fun e w'=>e=.returned (jk #[.agg #[je jd 0,je jd 0,jh ⟨#[]⟩,je jg 0,je jg 0,je jg 0,je jg 0],je jd 0,.iface 160 (.agg #[je jd 1,je jd (k:Int)])])/\Below w.heap.size w w':=by
 have:=znr s p w hs hp hS;unfold PNextIs at this;rw[h] at this;exact this
theorem zgo (s:ByteArray)(p:Nat)(t:Tok)(n:Nat)(w:World)(hs:s.size<=1050000)(hp:p<=s.size)(hS:SignsAt w)(h:nextL (bts s) p=.ok (t,n)) :
  Calls qab 44 #[jh s,je jd (p:Int)] w fun e w'=>e=.returned (jk #[.agg #[je jd (t.kind:Int),je jd (t.at_:Int),jh (strOf t.text),je jg (setW (inRs t.rs) 0),je jg (setW (inRs t.rs) 1),je jg (setW (inRs t.rs) 2),je jg (setW (inRs t.rs) 3)],je jd (n:Int),.nilIface])/\Below w.heap.size w w':=by
 have:=znr s p w hs hp hS;unfold PNextIs at this;rw[h] at this;exact this
end
theorem zlz {st:Bool}{F:List Tok->MF->PO}:∀(n:Nat) (ts:List Tok) (f g:MF) (rs rs':List (List Nat × Nat × Int)),defsL st F n ts f rs=.ok rs' g->rs'.length<=rs.length+n
 |0,_,_,_,_,_,h=>by cases h
 |n+1,ts,f,g,rs,rs',h=>by
  unfold defsL at h;cases hd:defL st F ts f with
  |bad a dp=>rw[hd] at h;cases h
  |ok a k=>
   rw[hd] at h;dsimp only at h;by_cases h0:kd a=0
   ·rw[if_pos h0] at h
    cases h;rw[qad,qai];omega
   ·rw[if_neg h0] at h
    have:=zlz n a k g _ _ h;rw[qad,qai] at this;omega
theorem zs6 {F:List Tok->MF->PO}(hG:Grow 0 2 F){ts a:List Tok}{f g:MF}(h:defL st F ts f=.ok a g):g.calls.length+a.length<=f.calls.length+ts.length:=by
 unfold defL at h;split at h
 ·rename_i k1
  have t1:=zcq (ts:=ts) U;obtain⟨b,k,hb,hk⟩:=zcr h;have e1:b=ts.tail/\k=f:=by
   unfold acc at hb;split at hb
   ·cases hb
   ·cases hb;exact⟨rfl,rfl⟩
  obtain⟨rfl,rfl⟩:=e1;split at hk
  ·rename_i k2
   have t2:=zcq (ts:=ts.tail) U;obtain⟨c,j,hc,hj⟩:=zcr hk;have e2:c=ts.tail.tail/\j=k:=by
    unfold acc at hc;split at hc
    ·cases hc
    ·cases hc;exact⟨rfl,rfl⟩
   obtain⟨rfl,rfl⟩:=e2;have hg:=hG ts.tail.tail j;rw[hj] at hg;have:=hg.2.2.2.2.2;omega
  ·cases hk
 ·cases h
theorem zks {st:Bool}{F:List Tok->MF->PO}(hG:Grow 0 2 F):∀(n:Nat) (ts:List Tok) (f g:MF) (rs rs':List (List Nat × Nat × Int)),defsL st F n ts f rs=.ok rs' g->g.calls.length<=f.calls.length+ts.length
 |0,_,_,_,_,_,h=>by cases h
 |n+1,ts,f,g,rs,rs',h=>by
  unfold defsL at h;cases hd:defL st F ts f with
  |bad a dp=>rw[hd] at h;cases h
  |ok a k=>
   have hc:=zs6 hG hd;rw[hd] at h;dsimp only at h;by_cases h0:kd a=0
   ·rw[if_pos h0] at h
    cases h;omega
   ·rw[if_neg h0] at h
    have:=zks hG n a k g _ _ h;omega
theorem zri (s:ByteArray):(strm (bts s) 0).length<=s.size+1:=by
 obtain⟨-,h2,-⟩:=zfl (bts s) _ 0 (Nat.zero_le _) (qac _);rw[zaj] at h2;omega
theorem zns {s:ByteArray}{rs:List (List Nat × Nat × Int)}{f:MF}(hs:s.size<=1050000)(h:zaz (bts s)=.ok rs f):rs.length<=100000000/\f.calls.length<=100000000:=by
 have h1:=zlz _ _ _ _ _ _ h;have h2:=zks (Gr.expr 200 true) _ _ _ _ _ _ h;have h3:=zri s;have e1:([]:List (List Nat × Nat × Int)).length=0:=rfl;have e2:(⟨[],[]⟩:MF).calls.length=0:=rfl;omega
