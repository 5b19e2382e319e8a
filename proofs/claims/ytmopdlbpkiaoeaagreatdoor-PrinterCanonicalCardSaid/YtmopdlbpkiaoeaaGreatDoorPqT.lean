/- The reference: expression. The reference: expression, the walk. -/
import Derived.Deep.Cut
import Derived.Test.YtmopdlbpkiaoeaaGreatDoorPqS
set_option maxRecDepth 100000
set_option maxHeartbeats 8000000
open Go.IntKind renaming i64->jd
open Go.Value renaming int->je, slice->jf, bool->ji
namespace Go.Proofs.YtmopdlbpkiaoeaaGreatDoor
open Go.Lib renaming hid->qaa
open Go.Proofs.Tryz renaming prog->qab, underlying52->qcb
open Go.World renaming ownsRow_nil->qav
open List renaming append_assoc->qao, append_nil->qa6, length_append->qad, length_singleton->qai, mem_append->qau
open Nat renaming le_refl->qac, le_trans->qal, lt_succ_self->qas
open Option.some renaming inj->qar
variable {y:SV}
section
open Go.RowKit
def RDo (R:RC)(N c:Nat)(fn:FuncId)(d:Nat)(F:List Tok->MF->PO):Prop:=∀(rs:List (List Nat × Nat × Int)) (qs:List Value) (x:SV) (ts:List Tok) (f:MF) (w:World),
 RSt R rs ts f qs x w->Endy ts->Fit c N rs ts f->R.base<=w.heap.size->Calls qab fn #[x.v R,je jd (d:Int)] w (RO R rs qs w (F ts f))
def Cel (R:RC)(x:SV):Array Value:=#[jf x.la R.T.length x.lc,je jd x.i,jf x.ra x.rn x.rc,jf x.na x.nn x.nc,jf x.ca x.cn x.cc,je jd x.bad,ji x.dp,ji R.one]
def Two (R:RC)(w:World)(x:SV)(W:World):Prop:=Bl W w.heap.size 167 (Cel R x)/\Bl W (w.heap.size+1) 167 zeroV/\Below w.heap.size w W
def KV (R:RC)(lo:Nat)(v:Value)(ks:List Int)(tq:List Value)(W:World):Prop:=W.ownsRow R.base 3 1 v ks.length (intsV ks)/\(∀b,v.ownBlock=some b->lo<=b)/\∀q,q ∈ tq->∀b,q.ownBlock=some b->v.ownBlock≠some b
section
variable {R:RC} {rs:List (List Nat × Nat × Int)} {w W W':World} {x:SV} {lo:Nat} {v:Value} {ks:List Int} {tq:List Value}
theorem Two.below (h:Two R w x W)(hb:Below W.heap.size W W'):Two R w x W':=⟨h.1.below hb,h.2.1.below hb,h.2.2.trans (hb.mono h.2.2.size)⟩
theorem KV.below (h:KV R lo v ks tq W)(hb:Below W.heap.size W W'):KV R lo v ks tq W':=⟨zab h.1 hb,h.2⟩
theorem KV.lt (h:KV R lo v ks tq W):∀b,v.ownBlock=some b->b<W.heap.size:=fun b hb=>(h.1.lt b hb).2
def st8 (W:World)(b:Nat)(R:RC)(x:SV):World:=(((((((W.setCell ⟨b,0,none⟩ (jf x.la R.T.length x.lc)).setCell ⟨b,1,none⟩ (je jd x.i)).setCell ⟨b,2,none⟩ (jf x.ra x.rn x.rc)).setCell ⟨b,3,none⟩ (jf x.na x.nn x.nc)).setCell ⟨b,4,none⟩ (jf x.ca x.cn x.cc)).setCell ⟨b,5,none⟩ (je jd x.bad)).setCell ⟨b,6,none⟩ (ji x.dp)).setCell ⟨b,7,none⟩ (ji R.one)
theorem Two.st8 (h:Two R w y W)(x:SV):Two R w x (st8 W w.heap.size R x):=by
 unfold Go.Proofs.YtmopdlbpkiaoeaaGreatDoor.st8;exact⟨zay h.1 _ _ _ _ _ _ _ _,Bl.other8 h.2.1 U _ _ _ _ _ _ _ _,zbh h.2.2 (qac _) _ _ _ _ _ _ _ _⟩
theorem KV.st8 (h:KV R lo v ks tq W)(hT:Two R w y W)(x:SV):KV R lo v ks tq (st8 W w.heap.size R x):=by
 unfold Go.Proofs.YtmopdlbpkiaoeaaGreatDoor.st8;exact⟨own8 h.1 hT.1 ja _ _ _ _ _ _ _ _,h.2⟩
theorem zp1 {base n sz:Nat}{t:TypeId}{u:Value}{xs:List Value}(h:W.ownsRow base t sz u n xs)(hT:Two R w y W)(ht:t≠167)(x:SV):(Go.Proofs.YtmopdlbpkiaoeaaGreatDoor.st8 W w.heap.size R x).ownsRow base t sz u n xs:=by
 unfold Go.Proofs.YtmopdlbpkiaoeaaGreatDoor.st8;exact own8 h hT.1 ht _ _ _ _ _ _ _ _
theorem RSt.st8 {z:SV}{ts:List Tok}{f:MF}{qs:List Value}(h:RSt R rs ts f qs z W)(hT:Two R w y W)(x:SV):RSt R rs ts f qs z (Go.Proofs.YtmopdlbpkiaoeaaGreatDoor.st8 W w.heap.size R x):=by
 unfold Go.Proofs.YtmopdlbpkiaoeaaGreatDoor.st8;exact RSt.low8 h hT.1 _ _ _ _ _ _ _ _
theorem RBad.st8 {z:SV}{a:List Tok}{dp:Bool}(h:RBad R rs a dp z W)(hT:Two R w y W)(x:SV):RBad R rs a dp z (Go.Proofs.YtmopdlbpkiaoeaaGreatDoor.st8 W w.heap.size R x):=by
 unfold Go.Proofs.YtmopdlbpkiaoeaaGreatDoor.st8;exact RBad.low8 h hT.1 _ _ _ _ _ _ _ _
theorem zl4 (b:Nat):(st8 W b R x).heap.size=W.heap.size:=by unfold Go.Proofs.YtmopdlbpkiaoeaaGreatDoor.st8;simp
structure Gro (W W':World) (v v':Value):Prop where
 g:W.grownBy W' v.ownBlock
 n:v'.ownBlock=v.ownBlock∨v'.ownBlock=some W.heap.size
section
variable {v':Value} (hg:Gro W W' v v') (hK:KV R lo v ks tq W)
include hg hK
omit hg in
theorem KV.kind:∀g,v.ownBlock=some g->∃c fz,W.heap[g]?=some (.cells c 3 fz):=fun g hv=>Lib.ownsRow_kind hK.1 g hv
theorem Gro.two (h:Two R w x W)(hlo:w.heap.size<=lo):Two R w x W':=by
 have kindB:∀g,v.ownBlock=some g->∃c t' fz,W.heap[g]?=some (.cells c t' fz)/\167≠t':=fun g hv=>by
  obtain⟨c,fz,e⟩:=hK.kind g hv;exact⟨c,3,fz,e,ja⟩
 exact⟨h.1.grown hg.g kindB,h.2.1.grown hg.g kindB,Below.row h.2.2 hg.g h.2.2.size fun b hb=>qal hlo (hK.2.1 b hb)⟩
theorem Gro.rst {ts:List Tok}{f:MF}{qs:List Value}(h:RSt R rs ts f qs x W)(hq:∀q,q ∈ qs->∀b,q.ownBlock=some b->v.ownBlock≠some b):RSt R rs ts f qs x W':=h.row hg.g hK.kind hq
theorem Gro.rbad {a:List Tok}{dp:Bool}(h:RBad R rs a dp x W):RBad R rs a dp x W':=by
 obtain⟨h1,h2,h3,h4,h5⟩:=h;exact⟨⟨zbl h1.1 hg.g hK.kind ja,h1.2⟩,h2,h3,h4,h5.1,zbl h5.2 hg.g hK.kind ja⟩
omit hK in
theorem Gro.kv {lo':Nat}{u:Value}{us:List Int}{tq':List Value}(h:KV R lo' u us tq' W)(hne:∀b,u.ownBlock=some b->v.ownBlock≠some b):KV R lo' u us tq' W':=by
 refine⟨h.1.kept hg.g ?_,h.2⟩;cases hu:u.ownBlock with
 |none=>exact .inl rfl
 |some b=>exact .inr (Ne.symm (hne b hu))
theorem Gro.self {k:Int}(hlo:lo<=W.heap.size)(hr:W'.ownsRow R.base 3 1 v' (ks.length+1) (intsV ks++[je jd k]))(hq:∀q,q ∈ tq->∀b,q.ownBlock=some b->b<W.heap.size):KV R lo v' (ks++[k]) tq W':=by
 refine⟨?_,fun b hb=>?_,fun q hq1 b hb e=>?_⟩
 ·rw[qad,qai]
  have e:intsV (ks++[k])=intsV ks++[je jd k]:=by simp[intsV]
  rw[e];exact hr
 ·rcases hg.n with h|h
  ·exact hK.2.1 b (h ▸ hb)
  ·rw[h] at hb
   obtain rfl:=qar hb;exact hlo
 ·rcases hg.n with h|h
  ·exact hK.2.2 q hq1 b hb (h ▸ e)
  ·rw[h] at e
   have e:W.heap.size=b:=qar e;have:=hq q hq1 b hb;omega
end
end
def InR (R:RC)(rs:List (List Nat × Nat × Int))(N:Nat)(w w1:World)(Q:List Value)(av:Value)(all:List Int)(top:Bool)(pre:List Tok->MF->PO)(L:Nat)(O:PO)(gk:Nat)(kv:Value)(wr:World):Prop:=
 ∃x,Two R w x wr/\wr.ownsRow R.base 3 1 av all.length (intsV all)/\w1.heap.size<=wr.heap.size /\
  ((∃a g ks tq,RSt R rs a g (Q++tq) x wr/\(∀q,q ∈ tq->∀b,q.ownBlock=some b->w1.heap.size<=b)/\KV R w1.heap.size kv ks tq wr/\(∀k,ks=[k]->k=lastI g)/\zb8 top pre gk a g ks=O/\Fit 1 N rs a g/\a.length<gk/\ks.length+gk<=L/\Endy a) ∨
   (∃c dp,RBad R rs c dp x wr/\O=.bad c dp/\∃ks tq,KV R w1.heap.size kv ks tq wr/\ks.length<=L))
def OutR (R:RC)(rs:List (List Nat × Nat × Int))(N:Nat)(w:World)(qs:List Value)(sq:List Tok->MF->PO)(L:Nat)(O:PO)(gk:Nat)(av:Value)(wr:World):Prop:=
 ∃x a g all tq,Two R w x wr/\RSt R rs a g (qs++tq) x wr/\(∀q,q ∈ tq->∀b,q.ownBlock=some b->w.heap.size<=b)/\KV R w.heap.size av all (qs++tq) wr/\altsL true sq gk a g all=O/\Fit 2 N rs a g/\a.length<gk/\all.length+gk<=L/\Endy a
section
variable {R:RC} {rs:List (List Nat × Nat × Int)} {N:Nat} {w w1 W w5:World} {Q qs:List Value} {av kv v5:Value} {all ks:List Int} {top:Bool} {pre sq:List Tok->MF->PO} {L m lo:Nat} {O:PO} {x:SV} {tq:List Value} {a c:List Tok} {g:MF} {dp:Bool} {o:Obj}
theorem InR.go (hT:Two R w x W)(hav:W.ownsRow R.base 3 1 av all.length (intsV all))(hwl:w.heap.size<=w1.heap.size)(h1:w1.heap.size<=lo)(h2:lo<=W.heap.size)(hQ:RF R rs a g (Q++tq) lo x W)(hK:KV R w1.heap.size kv ks tq W)(hkl:∀b,kv.ownBlock=some b->b<lo)(hal:∀b,av.ownBlock=some b->b<w1.heap.size)(hQl:∀q,q ∈ Q->∀b,q.ownBlock=some b->b<w1.heap.size)
  (htq:∀q,q ∈ tq->∀b,q.ownBlock=some b->w1.heap.size<=b) (hP:zb8 top pre m a g (ks++[lastI g])=O) (hF:Fit 1 N rs a g) (hlt:a.length<m) (hL:ks.length+1+m<=L) (hE:Endy a) (hg:(W.alloc o).grownBy w5 kv.ownBlock) (hn:v5.ownBlock=kv.ownBlock∨v5.ownBlock=some (W.alloc o).heap.size)
  (hr:w5.ownsRow R.base 3 1 v5 (ks.length+1) (intsV ks++[je jd (lastI g)])):InR R rs N w w1 Q av all top pre L O m v5 w5:=by
 obtain⟨t2,hS,ht2⟩:=hQ;have hnew:=zaa W o;have hK':KV R w1.heap.size kv ks (tq++t2) (W.alloc o):=by
  have k:=hK.below hnew;refine⟨k.1,k.2.1,fun q hq b hb=>?_⟩;rcases qau.1 hq with hq|hq
  ·exact k.2.2 q hq b hb
  ·intro e
   have:=ht2 q hq b hb;have:=hkl b e;omega
 have hG:Gro (W.alloc o) w5 kv v5:=⟨hg,hn⟩;have hS':=hS.below hnew;have hlt':=hS'.lt;rw[qao] at hS' hlt';have hsz:w1.heap.size<=(W.alloc o).heap.size:=by simp;omega
 refine⟨x,hG.two hK' (hT.below hnew) hwl,(hG.kv (lo':=0) (tq':=[]) ⟨zab hav hnew,fun _ _=>Nat.zero_le _,fun q hq=>nomatch hq⟩ fun b hb e=>?_).1,qal hsz hg.size,.inl ⟨a,g,ks++[lastI g],tq++t2,hG.rst hK' hS' fun q hq b hb=>?_,fun q hq b hb=>?_,hG.self hK' hsz hr fun q hq b hb=>hlt' q (List.mem_append_right _ hq) b hb,fun k hk=>?_,hP,hF,hlt,by rw[qad,qai];exact hL,hE⟩⟩
 ·have:=hal b hb
  have:=hK.2.1 b e;omega
 ·rcases qau.1 hq with hq|hq
  ·intro e
   have:=hQl q hq b hb;have:=hK.2.1 b e;omega
  ·exact hK'.2.2 q hq b hb
 ·rcases qau.1 hq with hq|hq
  ·exact htq q hq b hb
  ·exact qal h1 (ht2 q hq b hb)
 ·cases ks with
  |nil=>
   injection hk with hk _;exact hk.symm
  |cons k0 kr=>
   injection hk with _ hk;exact absurd hk jc
theorem InR.wrong {k:Int}(hT:Two R w x W)(hav:W.ownsRow R.base 3 1 av all.length (intsV all))(hwl:w.heap.size<=w1.heap.size)(h2:w1.heap.size<=W.heap.size)(hB:RBad R rs c dp x W)(hK:KV R w1.heap.size kv ks tq W)(hal:∀b,av.ownBlock=some b->b<w1.heap.size)(hL:ks.length+1<=L)(hO:O=.bad c dp)
  (hg:(W.alloc o).grownBy w5 kv.ownBlock) (hn:v5.ownBlock=kv.ownBlock∨v5.ownBlock=some (W.alloc o).heap.size) (hr:w5.ownsRow R.base 3 1 v5 (ks.length+1) (intsV ks++[je jd k])):InR R rs N w w1 Q av all top pre L O m v5 w5:=by
 have hnew:=zaa W o;have hK':KV R w1.heap.size kv ks [] (W.alloc o):=⟨(hK.below hnew).1,hK.2.1,fun q hq=>nomatch hq⟩;have hG:Gro (W.alloc o) w5 kv v5:=⟨hg,hn⟩;have hsz:w1.heap.size<=(W.alloc o).heap.size:=by simp;omega
 refine⟨x,hG.two hK' (hT.below hnew) hwl,(hG.kv (lo':=0) (tq':=[]) ⟨zab hav hnew,fun _ _=>Nat.zero_le _,fun q hq=>nomatch hq⟩ fun b hb e=>?_).1,qal hsz hg.size,.inr ⟨c,dp,hG.rbad hK' (hB.below hnew),hO,ks++[k],[],hG.self hK' hsz hr (fun q hq=>nomatch hq),by rw[qad,qai];exact hL⟩⟩;have:=hal b hb;have:=hK.2.1 b e;omega
theorem zwt {t1:List Value}(hT:Two R w x W)(hav:W.ownsRow R.base 3 1 av all.length (intsV all))(hwl:w.heap.size<=w1.heap.size)(h2:w1.heap.size<=W.heap.size)(hS:RSt R rs a g (qs++tq++t1) x W)(ht1:∀q,q ∈ t1->∀b,q.ownBlock=some b->w1.heap.size<=b)(hA:KV R w.heap.size av all (qs++tq) w1)(hg:(W.alloc o).grownBy w5 av.ownBlock)(hn:v5.ownBlock=av.ownBlock∨v5.ownBlock=some (W.alloc o).heap.size)
  (hr:w5.ownsRow R.base 3 1 v5 (all.length+1) (intsV all++[je jd (lastI g)])):Two R w x w5/\RSt R rs a g (qs++(tq++t1)) x w5/\KV R w.heap.size v5 (all++[lastI g]) (qs++(tq++t1)) w5:=by
 have hnew:=zaa W o;have hal:=hA.lt;have hK':KV R w.heap.size av all (qs++(tq++t1)) (W.alloc o):=by
  refine⟨zab hav hnew,hA.2.1,fun q hq b hb=>?_⟩;rw[<-qao] at hq;rcases qau.1 hq with hq|hq
  ·exact hA.2.2 q hq b hb
  ·intro e
   have:=ht1 q hq b hb;have:=hal b e;omega
 have hG:Gro (W.alloc o) w5 av v5:=⟨hg,hn⟩;have hS':=hS.below hnew;have hlt':=hS'.lt;rw[qao] at hS' hlt';have hsz:w.heap.size<=(W.alloc o).heap.size:=by simp;omega
 exact⟨hG.two hK' (hT.below hnew) (qac _),hG.rst hK' hS' fun q hq b hb=>hK'.2.2 q hq b hb,hG.self hK' hsz hr hlt'⟩
theorem z0c {u:Tok}{us:List Tok}(hT:Two R w x W)(hS:RSt R rs (u::us) g qs x W)(hA:KV R lo kv ks tq W)(n:Nat)(_hi:x.i=n)(hn:R.T.drop (n+1)=us)(hne:us≠[]) :
  Two R w { x with i:=(n:Int)+1 } (W.setCell ⟨w.heap.size,1,none⟩ (je jd ((n:Int)+1)))/\RSt R rs us g qs { x with i:=(n:Int)+1 } (W.setCell ⟨w.heap.size,1,none⟩ (je jd ((n:Int)+1)))/\KV R lo kv ks tq (W.setCell ⟨w.heap.size,1,none⟩ (je jd ((n:Int)+1))):=by
 refine⟨⟨Bl.put (i:=1) hT.1 _,hT.2.1.other U _,hT.2.2.setCell (p:=⟨w.heap.size,1,none⟩) (qac _) _⟩,?_,ownsRow_setCell_other hA.1 (a:=⟨w.heap.size,1,none⟩) (zaq hA.1 hT.1 ja) _,hA.2⟩;obtain⟨s1,s2,s3,-,-,s6⟩:=hS.low hT.1 1 (je jd ((n:Int)+1));exact⟨s1,s2,s3,⟨n+1,by show(n:Int)+1=_;omega,hn⟩,hne,s6⟩
end
end
section
open Go.RowKit
theorem zky {R:RC}{N d:Nat}{pre:List Tok->MF->PO}(hP:RDo R N 0 133 d pre)(hG:Grow 1 0 pre):RDo R N 2 107 d fun ts f=>altsL true (seqL (!R.one&&decide (d=0)) pre) (ts.length+1) ts f []:=by
 intro rs qs x ts f w h he hF hb;have hbd:=h.2.1;have hdp:=h.2.2.1;obtain⟨la,lc,i,ra,rn,rc,na,nn,nc,ca,cn,cc,bad,dp⟩:=x;have hbd:bad=-1:=hbd;have hdp:dp=false:=hdp;subst hbd hdp;unfold SV.v;dsimp only;obtain⟨top,htop⟩:∃t,(!R.one&&decide (d=0))=t:=⟨_,rfl⟩;have HTOP:=qaa htop;rw[htop];obtain⟨O,hO⟩:∃O,altsL true (seqL top pre) (ts.length+1) ts f []=O:=⟨_,rfl⟩;rw[hO];obtain⟨L,hL⟩:∃L,L=ts.length+1:=⟨_,rfl⟩;have hLb:L<=100000001:=by
  have h1:=hF.2.1;have h2:=hF.2.2.2.1;omega
 obtain⟨ii,hii,hzi0,hzi1,hzi2⟩:=info_parts zd1;have HS:=qaa h;have HE:=qaa he;have HF:=qaa hF;have HO:=qaa hO;have HL:=qaa hL;have HBASE:=qaa hb;have HQS:=qaa h.lt;have HPRE:=qaa hP;have HGR:=qaa hG;clear h he hF hO hL hb hP hG htop;go_enter Tryz.func107,Tryz.ntmps107
 go_upto_region 1 with fail
 obtain⟨W0,hW0⟩:∃W0,(w.alloc (.cells #[jf la R.T.length lc,je jd i,jf ra rn rc,jf na nn nc,jf ca cn cc,je jd (-1),ji false,ji R.one] 167)).alloc (.cells zeroV 167)=W0:=⟨_,rfl⟩;have hb0:Below w.heap.size w W0:=by rw[<-hW0];exact zac (zac (Below.refl _ _) rfl _) rfl _
 have hX:Bl W0 w.heap.size 167 #[jf la R.T.length lc,je jd i,jf ra rn rc,jf na nn nc,jf ca cn cc,je jd (-1),ji false,ji R.one]:=by rw[<-hW0];repeat (first|(refine Bl.new' ?_;simp;done)|refine Bl.past ?_)
 have hZ:Bl W0 (w.heap.size+1) 167 zeroV:=by rw[<-hW0];repeat (first|(refine Bl.new' ?_;simp;done)|refine Bl.past ?_)
 have H0:Hid (OutR R rs N w qs (seqL top pre) L O L (jf none 0 0) W0):=qaa ⟨⟨la,lc,i,ra,rn,rc,na,nn,nc,ca,cn,cc,-1,false⟩,ts,f,[],[],⟨hX,hZ,hb0⟩,by rw[qa6];exact HS.out.below hb0,(fun q hq=>nomatch hq),⟨qav _ _ _ _,(fun b hb=>by cases hb),fun q _ b _ hb=>by cases hb⟩,by rw[HL.out];exact HO.out,HF.out,by rw[HL.out];exact qas _,by show 0+L<=L;omega,HE.out⟩;unfold zeroV at hW0;rw[hW0];clear hb0 hX hZ hW0;go_wp2
 go_loopg [6] L (fun gk av wr=>OutR R rs N w qs (seqL top pre) L O gk av wr)
 case atStart=>exact H0.out
 case round=>
  obtain⟨⟨la1,lc1,i1,ra1,rn1,rc1,na1,nn1,nc1,ca1,cn1,cc1,bad1,dp1⟩,a,g,all,tq,hT,hS,htq,hAV,hO,hF,hlt,hL,hE⟩:=hrel;obtain⟨w1,rfl⟩:∃w1,w1=wr:=⟨_,rfl⟩;obtain⟨m,rfl⟩:∃m,gk=m+1:=⟨gk-1,U⟩;obtain⟨aa,ac,rfl⟩:=zag hAV.1;have hlen:a.length+1<=L:=U
  have H1:Hid (InR R rs N w w1 (qs++tq) (jf aa all.length ac) all top pre (2*L) (seqL top pre a g) (a.length+1) (jf none 0 0) w1):=qaa ⟨_,hT,hAV.1,qac _,.inl ⟨a,g,[],[],by rw[qa6];exact hS,(fun q hq=>nomatch hq),⟨qav _ _ _ _,(fun b hb=>by cases hb),fun q hq=>nomatch hq⟩,(fun k hk=>nomatch hk),rfl,hF.weak U,qas _,by show 0+(a.length+1)<=2*L;omega,hE⟩⟩;have hwr:w.heap.size<=w1.heap.size:=hT.2.2.size;rw[zch] at hO;have HT:=qaa hT;have HTQ:=qaa htq;have HAV:=qaa hAV;have HOO:=qaa hO;have HF1:=qaa hF;have HQ1:=qaa hS.lt;have HSQ:=qaa (Gr.seq (top:=top) HGR.out a g);have hall:all.length<=100000001:=U
  have HLT:=qaa hlt;have HLL:=qaa hL;clear hT hS htq hAV hO hF hE hlt hL hlen;go_wp2
  go_loopg [7] (a.length+1) (fun gk kv wq=>InR R rs N w w1 (qs++tq) (jf aa all.length ac) all top pre (2*L) (seqL top pre a g) gk kv wq)
  case atStart=>exact H1.out
  case round=>
   obtain⟨⟨la2,lc2,i2,ra2,rn2,rc2,na2,nn2,nc2,ca2,cn2,cc2,bad2,dp2⟩,hT2,hav2,hsz2,hor⟩:=hrel;have hX:Bl wr w.heap.size 167 #[jf la2 R.T.length lc2,je jd i2,jf ra2 rn2 rc2,jf na2 nn2 nc2,jf ca2 cn2 cc2,je jd bad2,ji dp2,ji R.one]:=hT2.1;have hZ:=hT2.2.1;obtain⟨⟨x0,x1,x2,x3,x4,x5,x6,x7⟩,xf,xl⟩:=zad hX;obtain⟨⟨z0,z1,z2,z3,z4,z5,z6,z7⟩,zf,zl⟩:=zad hZ;clear hX hZ;rcases hor with⟨a2,g2,ks,tq2,hS2,htq2,hKV,hone,hP2,hF2,hlt2,hL2,hE2⟩|⟨c,dpc,hB2,hO2,ks,tq2,hKV,hL2⟩
   ·have hbd:bad2=-1:=hS2.2.1
    have hdp:dp2=false:=hS2.2.2.1;subst hbd hdp;have kneg:(-1:Int)<0:=ja
    have hpart:=zz6 hS2 hE2 d;unfold SV.v at hpart;dsimp only at hpart;rw[HTOP.out] at hpart;obtain⟨ka,kc,rfl⟩:=zag hKV.1;have hksl:ks.length<=200000002:=U
    obtain⟨m2,rfl⟩:∃m2,gk=m2+1:=⟨gk-1,U⟩;cases hb2:begB top a2 with
    |true=>
     rw[hb2] at hpart;have HPART:=qaa hpart;rw[zbw hb2] at hP2;have hc:=fun(W:World) (hW:Below wr.heap.size wr W)=>HPRE.out rs (qs++tq++tq2) ⟨la2,lc2,i2,ra2,rn2,rc2,na2,nn2,nc2,ca2,cn2,cc2,-1,false⟩ a2 g2 W (hS2.below hW) hE2 (hF2.weak U) (qal HBASE.out (qal hT2.2.2.size hW.size))
     have hgr:=HGR.out a2 g2;cases hp:pre a2 g2 with
     |ok a3 g3=>
      rw[hp] at hc hgr hP2;rw[PO.bind_ok] at hP2;have hc2:=fun(W:World) (hW:Below wr.heap.size wr W)=>(show Calls qab 133 #[.agg #[jf la2 R.T.length lc2,je jd i2,jf ra2 rn2 rc2,jf na2 nn2 nc2,jf ca2 cn2 cc2,je jd (-1),ji false,ji R.one],je jd (d:Int)] W (RRes R (lastI g3) (RF R rs a3 g3 (qs++tq++tq2) wr.heap.size) W) from(hc W hW).mono fun e w' k=>k.mono fun x W2 q=>q.lo hW.size)
      have HC:=qaa hc2;have hF3:Fit 1 N rs a3 g3:=hF2.next hgr U;have hE3:Endy a3:=hgr.1 Endy zie hE2;have hl3:=hgr.2.1;have HT2:=qaa hT2;have HAV2:=qaa hav2;have HKV:=qaa hKV;have HTQ2:=qaa htq2;have HP2:=qaa hP2;have HF3:=qaa hF3;have HE3:=qaa hE3;have hlt3:a3.length<m2:=U
      have hL3:ks.length+1+m2<=2*L:=U
      have HX9:=qaa hlt3;have HX8:=qaa hL3;clear hpart hc hc2 hgr hP2 hp hb2 hS2 hE2 hF2 hT2 hav2 hKV hone htq2 hF3 hE3 hl3 hlt2 hL2 hlt3 hL3
      go_upto_region 6 with(first
       |(go_at_call 132;(with_reducible refine HPART.out.mono ?_);rintro e w3 ⟨rfl,hb3⟩;have hT3:=HT2.out.below hb3;clear x0 x1 x2 x3 x4 x5 x6 x7 xf xl z0 z1 z2 z3 z4 z5 z6 z7 zf zl;obtain⟨⟨x0,x1,x2,x3,x4,x5,x6,x7⟩,xf,xl⟩:=zad hT3.1;obtain⟨⟨z0,z1,z2,z3,z4,z5,z6,z7⟩,zf,zl⟩:=zad hT3.2.1;have HT3:=qaa hT3;have HB3:=qaa hb3;clear hT3 hb3)
       |(go_at_call 133;(with_reducible refine(HC.out _ HB3.out).mono ?_);rintro e w4 ⟨la4,lc4,i4,ra4,rn4,rc4,na4,nn4,nc4,ca4,cn4,cc4,bad4,dp4,rfl,hb4,hq4⟩;have hT4:=HT3.out.below hb4;have hb24:=HB3.out.trans (hb4.mono HB3.out.size);clear x0 x1 x2 x3 x4 x5 x6 x7 xf xl z0 z1 z2 z3 z4 z5 z6 z7 zf zl;obtain⟨⟨x0,x1,x2,x3,x4,x5,x6,x7⟩,xf,xl⟩:=zad hT4.1;obtain⟨⟨z0,z1,z2,z3,z4,z5,z6,z7⟩,zf,zl⟩:=zad hT4.2.1;have HT4:=qaa hT4;have HB4:=qaa hb24;have HQ4:=qaa hq4;clear hT4 hb4 hb24 hq4))
      have hT5:=HT4.out.st8 ⟨la4,lc4,i4,ra4,rn4,rc4,na4,nn4,nc4,ca4,cn4,cc4,bad4,dp4⟩;have hAV5:=zp1 (zab HAV2.out HB4.out) HT4.out ja ⟨la4,lc4,i4,ra4,rn4,rc4,na4,nn4,nc4,ca4,cn4,cc4,bad4,dp4⟩;have hKV5:=(HKV.out.below HB4.out).st8 HT4.out ⟨la4,lc4,i4,ra4,rn4,rc4,na4,nn4,nc4,ca4,cn4,cc4,bad4,dp4⟩;have hQ5:RF R rs a3 g3 (qs++tq++tq2) wr.heap.size ⟨la4,lc4,i4,ra4,rn4,rc4,na4,nn4,nc4,ca4,cn4,cc4,bad4,dp4⟩ (st8 w4 w.heap.size R ⟨la4,lc4,i4,ra4,rn4,rc4,na4,nn4,nc4,ca4,cn4,cc4,bad4,dp4⟩):=by
       obtain⟨t3,h1,h2⟩:=HQ4.out;exact⟨t3,h1.st8 HT4.out _,h2⟩
      have hsz5:(st8 w4 w.heap.size R ⟨la4,lc4,i4,ra4,rn4,rc4,na4,nn4,nc4,ca4,cn4,cc4,bad4,dp4⟩).heap.size=w4.heap.size:=zl4 _;obtain⟨W5,hW5⟩:∃W5,st8 w4 w.heap.size R ⟨la4,lc4,i4,ra4,rn4,rc4,na4,nn4,nc4,ca4,cn4,cc4,bad4,dp4⟩=W5:=⟨_,rfl⟩;rw[hW5] at hT5 hAV5 hKV5 hQ5 hsz5;unfold st8 at hW5;dsimp only at hW5;rw[hW5];clear x0 x1 x2 x3 x4 x5 x6 x7 xf xl z0 z1 z2 z3 z4 z5 z6 z7 zf zl hW5;obtain⟨⟨x0,x1,x2,x3,x4,x5,x6,x7⟩,xf,xl⟩:=zad hT5.1;obtain⟨⟨z0,z1,z2,z3,z4,z5,z6,z7⟩,zf,zl⟩:=zad hT5.2.1;have hs5:wr.heap.size<=W5.heap.size:=by have:=HB4.out.size;omega
      clear hsz5;have HT5:=qaa hT5;have HAV5:=qaa hAV5;have HKV5:=qaa hKV5;have HQ5:=qaa hQ5;have HB5:Hid (w.heap.size<=W5.heap.size):=qaa hT5.2.2.size;clear hT5 hAV5 hKV5 hQ5;obtain⟨lv,hlv⟩:∃y,lastI g3=y:=⟨_,rfl⟩;have HLV:=qaa hlv;rw[hlv];clear hlv;have hbs5:R.base<=W5.heap.size:=qal HBASE.out HB5.out
      go_wp2_with (at_builtin;refine wpList_append_own_at _ rfl _ _ 52 rfl R.base 3 ii (je jd 0) 1 8 qcb hii hzi0 hzi1 hzi2 rfl ja _ ks.length _ rfl (zab HKV5.out.1 (zaa _ _)) ⟨W5.heap.size,0,none⟩ 1 1 [je jd lv] rfl rfl (zat _ _ _) (by simp[Value.oneCell']) (by unfold maxLen;omega) U (by simp;omega) ?_;intro v5 w5 hown' hgrow _ hat;have HO5:=qaa hown';have HG5:Hid ((W5.alloc (.cells #[je jd lv] 3)).grownBy w5 (Value.slice ka ks.length kc).ownBlock):=qaa hgrow;have HAT:Hid (v5.ownBlock=(Value.slice ka ks.length kc).ownBlock∨v5.ownBlock=some (W5.alloc (.cells #[je jd lv] 3)).heap.size):=qaa hat;clear hown' hgrow hat)
      go_roundg m2
      case measure=>exact qas m2
      case rel=>
       have hgo:=HO5.out;rw[<-HLV.out] at hgo;exact InR.go HT5.out HAV5.out hwr hsz2 U HQ5.out HKV5.out (fun b hb=>HKV.out.lt b hb) HAV.out.lt HQ1.out HTQ2.out HP2.out HF3.out HX9.out HX8.out HE3.out HG5.out HAT.out hgo
     |bad c3 d3=>
      rw[hp] at hc hP2;rw[PO.bind_bad] at hP2;have hc2:=fun(W:World) (hW:Below wr.heap.size wr W)=>(show Calls qab 133 #[.agg #[jf la2 R.T.length lc2,je jd i2,jf ra2 rn2 rc2,jf na2 nn2 nc2,jf ca2 cn2 cc2,je jd (-1),ji false,ji R.one],je jd (d:Int)] W (RRes R 0 (RBad R rs c3 d3) W) from hc W hW)
      have HC:=qaa hc2;have HT2:=qaa hT2;have HAV2:=qaa hav2;have HKV:=qaa hKV;have HP2:=qaa hP2.symm;have hL3:ks.length+1<=2*L:=U
      have HX8:=qaa hL3;clear hpart hc hc2 hgr hP2 hp hb2 hS2 hE2 hF2 hT2 hav2 hKV hone htq2 hlt2 hL2 hL3
      go_upto_region 6 with(first
       |(go_at_call 132;(with_reducible refine HPART.out.mono ?_);rintro e w3 ⟨rfl,hb3⟩;have hT3:=HT2.out.below hb3;clear x0 x1 x2 x3 x4 x5 x6 x7 xf xl z0 z1 z2 z3 z4 z5 z6 z7 zf zl;obtain⟨⟨x0,x1,x2,x3,x4,x5,x6,x7⟩,xf,xl⟩:=zad hT3.1;obtain⟨⟨z0,z1,z2,z3,z4,z5,z6,z7⟩,zf,zl⟩:=zad hT3.2.1;have HT3:=qaa hT3;have HB3:=qaa hb3;clear hT3 hb3)
       |(go_at_call 133;(with_reducible refine(HC.out _ HB3.out).mono ?_);rintro e w4 ⟨la4,lc4,i4,ra4,rn4,rc4,na4,nn4,nc4,ca4,cn4,cc4,bad4,dp4,rfl,hb4,hq4⟩;have hT4:=HT3.out.below hb4;have hb24:=HB3.out.trans (hb4.mono HB3.out.size);clear x0 x1 x2 x3 x4 x5 x6 x7 xf xl z0 z1 z2 z3 z4 z5 z6 z7 zf zl;obtain⟨⟨x0,x1,x2,x3,x4,x5,x6,x7⟩,xf,xl⟩:=zad hT4.1;obtain⟨⟨z0,z1,z2,z3,z4,z5,z6,z7⟩,zf,zl⟩:=zad hT4.2.1;have HT4:=qaa hT4;have HB4:=qaa hb24;have HQ4:=qaa hq4;clear hT4 hb4 hb24 hq4))
      have hT5:=HT4.out.st8 ⟨la4,lc4,i4,ra4,rn4,rc4,na4,nn4,nc4,ca4,cn4,cc4,bad4,dp4⟩;have hAV5:=zp1 (zab HAV2.out HB4.out) HT4.out ja ⟨la4,lc4,i4,ra4,rn4,rc4,na4,nn4,nc4,ca4,cn4,cc4,bad4,dp4⟩;have hKV5:=(HKV.out.below HB4.out).st8 HT4.out ⟨la4,lc4,i4,ra4,rn4,rc4,na4,nn4,nc4,ca4,cn4,cc4,bad4,dp4⟩;have hQ5:=RBad.st8 HQ4.out HT4.out ⟨la4,lc4,i4,ra4,rn4,rc4,na4,nn4,nc4,ca4,cn4,cc4,bad4,dp4⟩;have hsz5:(st8 w4 w.heap.size R ⟨la4,lc4,i4,ra4,rn4,rc4,na4,nn4,nc4,ca4,cn4,cc4,bad4,dp4⟩).heap.size=w4.heap.size:=zl4 _;obtain⟨W5,hW5⟩:∃W5,st8 w4 w.heap.size R ⟨la4,lc4,i4,ra4,rn4,rc4,na4,nn4,nc4,ca4,cn4,cc4,bad4,dp4⟩=W5:=⟨_,rfl⟩;rw[hW5] at hT5 hAV5 hKV5 hQ5 hsz5;unfold st8 at hW5;dsimp only at hW5;rw[hW5];clear x0 x1 x2 x3 x4 x5 x6 x7 xf xl z0 z1 z2 z3 z4 z5 z6 z7 zf zl hW5;obtain⟨⟨x0,x1,x2,x3,x4,x5,x6,x7⟩,xf,xl⟩:=zad hT5.1;obtain⟨⟨z0,z1,z2,z3,z4,z5,z6,z7⟩,zf,zl⟩:=zad hT5.2.1;have hs5:wr.heap.size<=W5.heap.size:=by have:=HB4.out.size;omega
      clear hsz5;have HT5:=qaa hT5;have HAV5:=qaa hAV5;have HKV5:=qaa hKV5;have HQ5:=qaa hQ5;have HB5:Hid (w.heap.size<=W5.heap.size):=qaa hT5.2.2.size;clear hT5 hAV5 hKV5 hQ5;have hbs5:R.base<=W5.heap.size:=qal HBASE.out HB5.out
      go_wp2_with (at_builtin;refine wpList_append_own_at _ rfl _ _ 52 rfl R.base 3 ii (je jd 0) 1 8 qcb hii hzi0 hzi1 hzi2 rfl ja _ ks.length _ rfl (zab HKV5.out.1 (zaa _ _)) ⟨W5.heap.size,0,none⟩ 1 1 [je jd 0] rfl rfl (zat _ _ _) (by simp[Value.oneCell']) (by unfold maxLen;omega) U (by simp;omega) ?_;intro v5 w5 hown' hgrow _ hat;have HO5:=qaa hown';have HG5:Hid ((W5.alloc (.cells #[je jd 0] 3)).grownBy w5 (Value.slice ka ks.length kc).ownBlock):=qaa hgrow;have HAT:Hid (v5.ownBlock=(Value.slice ka ks.length kc).ownBlock∨v5.ownBlock=some (W5.alloc (.cells #[je jd 0] 3)).heap.size):=qaa hat;clear hown' hgrow hat)
      go_roundg m2
      case measure=>exact qas m2
      case rel=>exact InR.wrong HT5.out HAV5.out hwr U HQ5.out HKV5.out HAV.out.lt HX8.out HP2.out HG5.out HAT.out HO5.out
    |false=>
     rw[hb2] at hpart;have HPART:=qaa hpart;rw[za7 hb2] at hP2;have hSQ:Gr 0 1 a g (.ok a2 (joinN g2 3 ks)):=hP2 ▸ HSQ.out;have hF4:Fit 1 N rs a2 (joinN g2 3 ks):=HF1.out.next hSQ U;have hl4:=hSQ.2.1;have hO4:=HOO.out;rw[<-hP2,PO.bind_ok] at hO4;have hg:=fun(W:World) (hW:Below wr.heap.size wr W)=>(zjg ⟨la2,lc2,i2,ra2,rn2,rc2,na2,nn2,nc2,ca2,cn2,cc2,-1,false⟩ 3 ka kc ks (hS2.below hW) hKV.2.1 (zab hKV.1 hW) (by have:=hF2.1;have:=hF2.2.2.2.1;omega) U (qal HBASE.out (qal hT2.2.2.size hW.size)) hone).mono fun e w' k=>k.mono fun x W2 q=>RF.trans q htq2 (qac _)
     unfold SV.v at hg;dsimp only at hg;obtain⟨g4,hg4⟩:∃g4,joinN g2 3 ks=g4:=⟨_,rfl⟩;rw[hg4] at hg hF4 hO4;have HGP:=qaa hg;have HF4:=qaa hF4;have HO4:=qaa hO4;have HE2:=qaa hE2;have HT2:=qaa hT2;have HAV2:=qaa hav2;have HL4:=qaa hl4;clear hpart hg hSQ hP2 hb2 hS2 hE2 hF2 hT2 hav2 hKV hone htq2 hlt2 hL2 hg4 hF4 hO4 hl4
     go_upto_region 11 with(first
      |(go_at_call 132;(with_reducible refine HPART.out.mono ?_);rintro e w3 ⟨rfl,hb3⟩;have hT3:=HT2.out.below hb3;clear x0 x1 x2 x3 x4 x5 x6 x7 xf xl z0 z1 z2 z3 z4 z5 z6 z7 zf zl;obtain⟨⟨x0,x1,x2,x3,x4,x5,x6,x7⟩,xf,xl⟩:=zad hT3.1;obtain⟨⟨z0,z1,z2,z3,z4,z5,z6,z7⟩,zf,zl⟩:=zad hT3.2.1;have HT3:=qaa hT3;have HB3:=qaa hb3;clear hT3 hb3)
      |(go_at_call 134;(with_reducible refine(HGP.out _ HB3.out).mono ?_);rintro e w4 ⟨la4,lc4,i4,ra4,rn4,rc4,na4,nn4,nc4,ca4,cn4,cc4,bad4,dp4,rfl,hb4,hq4⟩;have hbd:bad4=-1:=hq4.choose_spec.1.2.1;have hdp:dp4=false:=hq4.choose_spec.1.2.2.1;subst hbd hdp;have hT4:=HT3.out.below hb4;have hb24:=HB3.out.trans (hb4.mono HB3.out.size);clear x0 x1 x2 x3 x4 x5 x6 x7 xf xl z0 z1 z2 z3 z4 z5 z6 z7 zf zl;obtain⟨⟨x0,x1,x2,x3,x4,x5,x6,x7⟩,xf,xl⟩:=zad hT4.1;obtain⟨⟨z0,z1,z2,z3,z4,z5,z6,z7⟩,zf,zl⟩:=zad hT4.2.1;have HT4:=qaa hT4;have HB4:=qaa hb24;have HQ4:=qaa hq4;clear hT4 hb4 hb24 hq4))
     have hT5:=HT4.out.st8 ⟨la4,lc4,i4,ra4,rn4,rc4,na4,nn4,nc4,ca4,cn4,cc4,-1,false⟩;have hAV5:=zp1 (zab HAV2.out HB4.out) HT4.out ja ⟨la4,lc4,i4,ra4,rn4,rc4,na4,nn4,nc4,ca4,cn4,cc4,-1,false⟩;obtain⟨t3,hq1,hq2⟩:=HQ4.out;have hS5:=hq1.st8 HT4.out ⟨la4,lc4,i4,ra4,rn4,rc4,na4,nn4,nc4,ca4,cn4,cc4,-1,false⟩;have hsz5:(st8 w4 w.heap.size R ⟨la4,lc4,i4,ra4,rn4,rc4,na4,nn4,nc4,ca4,cn4,cc4,-1,false⟩).heap.size=w4.heap.size:=zl4 _;obtain⟨W5,hW5⟩:∃W5,st8 w4 w.heap.size R ⟨la4,lc4,i4,ra4,rn4,rc4,na4,nn4,nc4,ca4,cn4,cc4,-1,false⟩=W5:=⟨_,rfl⟩;rw[hW5] at hT5 hAV5 hS5 hsz5;unfold st8 at hW5;dsimp only at hW5;rw[hW5];clear x0 x1 x2 x3 x4 x5 x6 x7 xf xl z0 z1 z2 z3 z4 z5 z6 z7 zf zl hW5 hq1;obtain⟨⟨x0,x1,x2,x3,x4,x5,x6,x7⟩,xf,xl⟩:=zad hT5.1;obtain⟨⟨z0,z1,z2,z3,z4,z5,z6,z7⟩,zf,zl⟩:=zad hT5.2.1;have hs5:wr.heap.size<=W5.heap.size:=by have:=HB4.out.size;omega
     clear hsz5;have HT5:=qaa hT5;have HAV5:=qaa hAV5;have HS5:=qaa hS5;have HT3Q:=qaa hq2;have HB5:Hid (w.heap.size<=W5.heap.size):=qaa hT5.2.2.size;clear hT5 hAV5 hS5 hq2;obtain⟨lv,hlv⟩:∃y,lastI g4=y:=⟨_,rfl⟩;have HLV:=qaa hlv;rw[hlv];clear hlv;have hbs5:R.base<=W5.heap.size:=qal HBASE.out HB5.out
     go_upto_region 12 with(at_builtin;refine wpList_append_own_at _ rfl _ _ 52 rfl R.base 3 ii (je jd 0) 1 8 qcb hii hzi0 hzi1 hzi2 rfl ja _ all.length _ rfl (zab HAV5.out (zaa _ _)) ⟨W5.heap.size,0,none⟩ 1 1 [je jd lv] rfl rfl (zat _ _ _) (by simp[Value.oneCell']) (by unfold maxLen;omega) U (by simp;omega) ?_;intro v5 w5 hown' hgrow _ hat;have HO5:=qaa hown';have HG5:Hid ((W5.alloc (.cells #[je jd lv] 3)).grownBy w5 (Value.slice aa all.length ac).ownBlock):=qaa hgrow;have HAT:Hid (v5.ownBlock=(Value.slice aa all.length ac).ownBlock∨v5.ownBlock=some (W5.alloc (.cells #[je jd lv] 3)).heap.size):=qaa hat;clear hown' hgrow hat)
     have hgo:=HO5.out;rw[<-HLV.out] at hgo HG5 HAT;obtain⟨hT6,hS6,hA6⟩:=zwt HT5.out HAV5.out hwr U HS5.out HT3Q.out HAV.out HG5.out HAT.out hgo;have htq6:∀q,q ∈ tq++t3->∀b,q.ownBlock=some b->w.heap.size<=b:=fun q hq b hb=>by
      rcases qau.1 hq with hq|hq
      ·exact HTQ.out q hq b hb
      ·exact qal hwr (HT3Q.out q hq b hb)
     clear x0 x1 x2 x3 x4 x5 x6 x7 xf xl z0 z1 z2 z3 z4 z5 z6 z7 zf zl hgo;obtain⟨⟨x0,x1,x2,x3,x4,x5,x6,x7⟩,xf,xl⟩:=zad hT6.1;obtain⟨⟨z0,z1,z2,z3,z4,z5,z6,z7⟩,zf,zl⟩:=zad hT6.2.1;obtain⟨va,vc,e5⟩:=zag hA6.1;subst e5;have hlall:(all++[lastI g4]).length=all.length+1:=by rw[qad,qai]
     have HS6:=qaa hS6;obtain⟨hfix6,-,-,⟨n6,hi6,hn6⟩,-⟩:=hS6;have hi6:i4=(n6:Int):=hi6;subst hi6
     match a2,HE2,HF4,HO4,HL4,HS6,hn6 with
     |u::us,HE2,HF4,HO4,HL4,HS6,hn6=>
     have hk:=za9 R ⟨la4,lc4,(n6:Int),ra4,rn4,rc4,na4,nn4,nc4,ca4,cn4,cc4,-1,false⟩ w5 n6 u us hfix6 rfl hn6;have hnl:=(hfix6.tok hn6).1;have hTl:=hfix6.2;unfold SV.v at hk;dsimp only at hk;have v6:IntKind.i64.wrap ((n6:Int)+1)=(n6:Int)+1:=IntWalk.i64_in _ U;have HA6:=qaa hA6;have HT6:=qaa hT6;have HTQ6:=qaa htq6;have HDR:Hid (R.T.drop (n6+1)=us):=qaa (by rw[<-List.tail_drop,hn6];rfl);by_cases k3:u.kind=3
     ·have ek:kI u.kind=3:=by rw[k3];rfl
      rw[ek] at hk;have HKD:=qaa hk;have hO6:=HO4.out;rw[if_pos (show kd (u::us)=3 from k3),za5] at hO6;have HO6:Hid (altsL true (seqL top pre) m us g4 (all++[lastI g4])=O):=qaa hO6;have hEu:=HE2.out.tail (show u.kind≠0 by omega) (show u.kind≠99 by omega);have hFu:Fit 2 N rs us g4:=HF4.out.tail (show u.kind≠0 by omega) U;have hlu:us.length<m:=by
       have h1:=HL4.out;have h2:=HLT.out;rw[List.length_cons] at h1;omega
      have hLu:(all++[lastI g4]).length+m<=L:=by
       have h2:=HLL.out;rw[hlall];omega
      have HEu:=qaa hEu;have HFu:=qaa hFu;have HLu:=qaa hlu;have HLLu:=qaa hLu;clear hk hfix6 hn6 hnl hT6 hA6 htq6 ek k3 hO6 hEu hFu hlu hLu hlall;obtain⟨al2,hal2⟩:∃l,all++[lastI g4]=l:=⟨_,rfl⟩;rw[hal2] at HA6 HO6 HLLu ⊢;clear hal2
      go_upto_region 14 with(go_at_call 105;(with_reducible refine HKD.out.mono ?_);rintro e w6 ⟨rfl,hb6⟩;have hT7:=HT6.out.below hb6;clear x0 x1 x2 x3 x4 x5 x6 x7 xf xl z0 z1 z2 z3 z4 z5 z6 z7 zf zl;obtain⟨⟨x0,x1,x2,x3,x4,x5,x6,x7⟩,xf,xl⟩:=zad hT7.1;obtain⟨⟨z0,z1,z2,z3,z4,z5,z6,z7⟩,zf,zl⟩:=zad hT7.2.1;have HT7:=qaa hT7;have HB6:=qaa hb6;clear hT7 hb6)
      go_wp2
      go_roundg m
      case measure=>exact qas m
      case rel=>
       obtain⟨r1,r2,r3⟩:=z0c HT7.out (HS6.out.below HB6.out) (HA6.out.below HB6.out) n6 rfl HDR.out HEu.out.ne;exact⟨_,us,g4,al2,tq++t3,r1,r2,HTQ6.out,r3,HO6.out,HFu.out,HLu.out,HLLu.out,HEu.out⟩
     ·have ek:(kI u.kind != 3)=true:=zah (kI_ne k3)
      obtain⟨ku,hku⟩:∃y,kI u.kind=y:=⟨_,rfl⟩;rw[hku] at hk ek;have HKD:=qaa hk;have hO6:=HO4.out;rw[if_neg (show ¬kd (u::us)=3 from k3)] at hO6;have HO6:=qaa hO6;have hg:=fun(W:World) (hW:Below w5.heap.size w5 W)=>(zjg ⟨la4,lc4,(n6:Int),ra4,rn4,rc4,na4,nn4,nc4,ca4,cn4,cc4,-1,false⟩ 4 va vc (all++[lastI g4]) (HS6.out.below hW) hA6.2.1 (zab hA6.1 hW) (by have:=HF4.out.1;have:=HF4.out.2.2.2.1;omega) (by rw[hlall];omega) (qal HBASE.out (qal hT6.2.2.size hW.size)) (fun k hk=>by
       cases hal:all with
       |nil=>
        rw[hal] at hk;injection hk with hk _;exact hk.symm
       |cons k0 kr=>
        rw[hal] at hk;injection hk with _ hk;exact absurd hk jc)).mono fun e w' k=>k.mono fun x W2 q=>RF.trans q HTQ6.out (qac _)
      unfold SV.v at hg;dsimp only at hg;have HGP:=qaa hg;have HLA:=qaa hlall;clear hk hg hfix6 hn6 hnl hT6 hA6 htq6 hku k3 hO6 hlall;obtain⟨al2,hal2⟩:∃l,all++[lastI g4]=l:=⟨_,rfl⟩;rw[hal2] at HGP HO6 HA6 HLA ⊢
      go_wp2_with (first
       |(go_at_call 105;(with_reducible refine HKD.out.mono ?_);rintro e w6 ⟨rfl,hb6⟩;have hT7:=HT6.out.below hb6;clear x0 x1 x2 x3 x4 x5 x6 x7 xf xl z0 z1 z2 z3 z4 z5 z6 z7 zf zl;obtain⟨⟨x0,x1,x2,x3,x4,x5,x6,x7⟩,xf,xl⟩:=zad hT7.1;obtain⟨⟨z0,z1,z2,z3,z4,z5,z6,z7⟩,zf,zl⟩:=zad hT7.2.1;have HT7:=qaa hT7;have HB6:=qaa hb6;clear hT7 hb6)
       |(go_at_call 134;(with_reducible refine(HGP.out _ HB6.out).mono ?_);rintro e w7 ⟨la7,lc7,i7,ra7,rn7,rc7,na7,nn7,nc7,ca7,cn7,cc7,bad7,dp7,rfl,hb7,hq7⟩;have hT8:=HT7.out.below hb7;clear x0 x1 x2 x3 x4 x5 x6 x7 xf xl z0 z1 z2 z3 z4 z5 z6 z7 zf zl;obtain⟨⟨x0,x1,x2,x3,x4,x5,x6,x7⟩,xf,xl⟩:=zad hT8.1;obtain⟨⟨z0,z1,z2,z3,z4,z5,z6,z7⟩,zf,zl⟩:=zad hT8.2.1;have HT8:=qaa hT8;have HQ7:=qaa hq7;clear hT8 hb7 hq7))
      have hS8:=zay HT8.out.2.1 (jf la7 R.T.length lc7) (je jd i7) (jf ra7 rn7 rc7) (jf na7 nn7 nc7) (jf ca7 cn7 cc7) (je jd bad7) (ji dp7) (ji R.one);clear x0 x1 x2 x3 x4 x5 x6 x7 xf xl z0 z1 z2 z3 z4 z5 z6 z7 zf zl;obtain⟨⟨c0,c1,c2,c3,c4,c5,c6,c7⟩,cf,-⟩:=zad hS8;refine bodyPost_ret (v:=.tuple #[.agg #[jf la7 R.T.length lc7,je jd i7,jf ra7 rn7 rc7,jf na7 nn7 nc7,jf ca7 cn7 cc7,je jd bad7,ji dp7,ji R.one],je jd (lastI (joinN g4 4 al2))]) (by simp[results,Tryz.results107,go_sem,c0,c1,c2,c3,c4,c5,c6,c7]) rfl ?_;rw[<-HO6.out];exact⟨la7,lc7,i7,ra7,rn7,rc7,na7,nn7,nc7,ca7,cn7,cc7,bad7,dp7,rfl,zbh HT8.out.2.2 U _ _ _ _ _ _ _ _,RF.low8 HQ7.out HT8.out.2.1 _ _ _ _ _ _ _ _⟩
   ·obtain⟨m5,hm5,-⟩:=hB2.2.2.1
    have hm5:bad2=(m5:Int):=hm5;subst hm5;have kneg:¬(m5:Int)<0:=U
    have kb:(0:Int)<=(m5:Int):=U
    have hO6:=HOO.out;rw[hO2,PO.bind_bad] at hO6;have HO6:=qaa hO6;have HT2:=qaa hT2;have HB2:=qaa hB2;obtain⟨ka,kc,rfl⟩:=zag hKV.1;clear hT2 hB2 hO2 hKV hL2 hav2 hO6 hsz2;go_wp2;have hS8:=zay HT2.out.2.1 (jf la2 R.T.length lc2) (je jd i2) (jf ra2 rn2 rc2) (jf na2 nn2 nc2) (jf ca2 cn2 cc2) (je jd (m5:Int)) (ji dp2) (ji R.one);clear x0 x1 x2 x3 x4 x5 x6 x7 xf xl z0 z1 z2 z3 z4 z5 z6 z7 zf zl;obtain⟨⟨c0,c1,c2,c3,c4,c5,c6,c7⟩,cf,-⟩:=zad hS8;refine bodyPost_ret (v:=.tuple #[.agg #[jf la2 R.T.length lc2,je jd i2,jf ra2 rn2 rc2,jf na2 nn2 nc2,jf ca2 cn2 cc2,je jd (m5:Int),ji dp2,ji R.one],je jd 0]) (by simp[results,Tryz.results107,go_sem,c0,c1,c2,c3,c4,c5,c6,c7]) rfl ?_;rw[<-HO6.out];exact⟨la2,lc2,i2,ra2,rn2,rc2,na2,nn2,nc2,ca2,cn2,cc2,(m5:Int),dp2,rfl,zbh HT2.out.2.2 U _ _ _ _ _ _ _ _,RBad.low8 HB2.out HT2.out.2.1 _ _ _ _ _ _ _ _⟩
end
