/- The law PrinterCanonical at a string that is too long, and at one with a canonical text, given the program's Canonical. The reference's Canonical, given what it -/
import Derived.Test.YtmopdlbpkiaoeaaGreatDoorPqPK
import Derived.Test.YtmopdlbpkiaoeaaGreatDoorPqPQ
import Derived.Test.YtmopdlbpkiaoeaaGreatDoorPqRR
set_option maxRecDepth 100000
set_option maxHeartbeats 8000000
open Go.Value renaming slice->jf, string->jh, bool->ji, tuple->jk
namespace Go.Proofs.YtmopdlbpkiaoeaaGreatDoor
open Go.Lib renaming hid->qaa
open Go.Proofs.Tryz renaming func6->qf1, prog->qab
open Go.RowKit.Below renaming refl->qaf
open Int renaming toNat_natCast->qa8
open List renaming append_nil->qa6, flatMap_cons->qat, flatMap_nil->qbu, getElem?_eq_getElem->qae, getElem?_map->qax, length_append->qad, length_cons->qah, length_map->qaw, length_singleton->qai, map_append->qa5, mem_append->qau, mem_cons_self->qap, mem_singleton->qam, sum_append->qd7, take_length->qbz, take_sublist->qga
open Nat renaming le_refl->qac, zero_le->qaj
variable {st:Bool}{ts:List Tok}{f:MF}{b room:Nat}{n:PN}
section
open Go.RowKit
theorem yagk (s:ByteArray)(w:World)(hA:Awk10 w)(hs:1000<s.size) :
  Calls qab 6 #[jh s] w fun e w'=>e=.returned (ji true)/\Below w.heap.size w w':=by
 unfold Awk10 at hA;have HA:=qaa hA;have HB:=qaa (qaf w.heap.size w);have k1:(1000:Int)<(s.size:Int):=U
 clear hA hs;go_enter qf1,Tryz.ntmps6
 go_wp2_with (first
  |(go_at_call 8;(with_reducible refine(HA.out _ HB.out).mono ?_);rintro e w2 ⟨rfl,hb⟩;replace HB:=qaa (HB.out.trans (hb.mono HB.out.size));clear hb))
 go_ret;exact⟨rfl,HB.out⟩
def Can10 (F:FuncId)(x:Value)(s t:ByteArray)(w:World):Prop:=∀W,Below w.heap.size w W->Calls qab F #[jh s] W fun e w'=>e=.returned (jk #[jh t,x])/\Below W.heap.size W w'
theorem yajq (s t:ByteArray)(w:World)(hA:Awk10 w)(hs:s.size<=1000)(h1:Can10 21 .nilIface s t w)(h2:Can10 22 (.int .i64 0) s t w)(h3:Can10 21 .nilIface t t w) :
  Calls qab 6 #[jh s] w fun e w'=>e=.returned (ji true)/\Below w.heap.size w w':=by
 unfold Awk10 at hA;unfold Can10 at h1 h2 h3;have HA:=qaa hA;have H1:=qaa h1;have H2:=qaa h2;have H3:=qaa h3;have HB:=qaa (qaf w.heap.size w);have k1:¬(1000:Int)<(s.size:Int):=U
 clear hA hs h1 h2 h3;go_enter qf1,Tryz.ntmps6
 go_wp2_with (first
  |(go_at_call 8;(with_reducible refine(HA.out _ HB.out).mono ?_);rintro e w2 ⟨rfl,hb⟩;replace HB:=qaa (HB.out.trans (hb.mono HB.out.size));clear hb)
  |(go_at_call 21;(with_reducible refine(H1.out _ HB.out).mono ?_);rintro e w2 ⟨rfl,hb⟩;replace HB:=qaa (HB.out.trans (hb.mono HB.out.size));clear hb)
  |(go_at_call 21;(with_reducible refine(H3.out _ HB.out).mono ?_);rintro e w2 ⟨rfl,hb⟩;replace HB:=qaa (HB.out.trans (hb.mono HB.out.size));clear hb)
  |(go_at_call 22;(with_reducible refine(H2.out _ HB.out).mono ?_);rintro e w2 ⟨rfl,hb⟩;replace HB:=qaa (HB.out.trans (hb.mono HB.out.size));clear hb))
 go_ret;exact⟨rfl,HB.out⟩
def Cbd10 (s:ByteArray)(c:Int)(w:World):Prop:=∀W,Below w.heap.size w W->Calls qab 21 #[jh s] W fun e w'=>∃er:Err,e=.returned (jk #[jh ⟨#[]⟩,er.val])/\er.In w'/\er.codeOf=some c/\Below W.heap.size W w'
def Cod10 (c:Int)(w:World):Prop:=∀(er:Err) (ty:TypeId) (iv:Value) (W:World),Below w.heap.size w W->er.val=.iface ty iv->er.codeOf=some c->er.In W->Calls qab 23 #[.iface ty iv] W fun e w'=>e=.returned (jk #[.int .i64 c,ji true])/\Below W.heap.size W w'
theorem yaih (s:ByteArray)(c:Int)(w:World)(hA:Awk10 w)(hs:s.size<=1000)(hc:c≠0)(h1:Cbd10 s c w)(h2:Can10 22 (.int .i64 c) s ⟨#[]⟩ w)(h3:Cod10 c w) :
  Calls qab 6 #[jh s] w fun e w'=>e=.returned (ji true)/\Below w.heap.size w w':=by
 unfold Awk10 at hA;unfold Can10 at h2;unfold Cbd10 at h1;unfold Cod10 at h3;have HA:=qaa hA;have H1:=qaa h1;have H2:=qaa h2;have H3:=qaa h3;have HB:=qaa (qaf w.heap.size w);have k1:¬(1000:Int)<(s.size:Int):=U
 have q1:(c != 0)=true:=by rw[bne_iff_ne];exact hc
 have q2:(c == c)=true:=jc
 clear hA hs h1 h2 h3 hc;go_enter qf1,Tryz.ntmps6
 go_wp2_with (first
  |(go_at_call 8;(with_reducible refine(HA.out _ HB.out).mono ?_);rintro e w2 ⟨rfl,hb⟩;replace HB:=qaa (HB.out.trans (hb.mono HB.out.size));clear hb)
  |(go_at_call 21;(with_reducible refine(H1.out _ HB.out).mono ?_);rintro e w3 ⟨er,he,hE,hco,hb⟩;obtain⟨ty,iv,hv⟩:=er.val_ne;rw[hv] at he;subst he;replace HB:=qaa (HB.out.trans (hb.mono HB.out.size));have HE:=qaa hE;have HCO:=qaa hco;have HV:=qaa hv;clear hb hE hco hv)
  |(go_at_call 22;(with_reducible refine(H2.out _ HB.out).mono ?_);rintro e w4 ⟨rfl,hb⟩;replace HB:=qaa (HB.out.trans (hb.mono HB.out.size));replace HE:=qaa (HE.out.kept hb (qac _));clear hb)
  |(go_at_call 23;(with_reducible refine(H3.out _ _ _ _ HB.out HV.out HCO.out HE.out).mono ?_);rintro e w5 ⟨rfl,hb⟩;replace HB:=qaa (HB.out.trans (hb.mono HB.out.size));clear hb))
 go_ret;exact⟨rfl,HB.out⟩
end
section
open Go.RowKit
theorem yagl (s:ByteArray)(w:World){c:Int}(hc:c≠0)(hG:Calls qab 49 #[jh s] w fun e w'=>e=.returned (jk #[.agg #[jf none 0 0,jf none 0 0],.int .i64 c])/\Below w.heap.size w w') :
  Calls qab 22 #[jh s] w fun e w'=>e=.returned (jk #[jh ⟨#[]⟩,.int .i64 c])/\Below w.heap.size w w':=by
 have HG:=qaa hG;have q1:(c != 0)=true:=by rw[bne_iff_ne];exact hc
 clear hG hc;go_enter Tryz.func22,Tryz.ntmps22
 go_wp2_with (go_at_call 49;(with_reducible refine HG.out.mono ?_);rintro e w1 ⟨rfl,hb⟩;have HB:=qaa (hb.trans ((zaa w1 (.cells #[jf none 0 0,jf none 0 0] 25)).mono hb.size));clear hb)
 refine bodyPost_ret (v:=jk #[jh ⟨#[]⟩,.int .i64 c]) (by simp[results,Tryz.results22,go_sem]) rfl ?_;exact⟨rfl,HB.out⟩
theorem yaii (s:ByteArray)(w:World){rs:List PR}{ns:List PN}(hk:chkL rs ns=.ok)(hw:∀n,n ∈ ns->z87 n)(hl:(z88 rs ns).length<=1000000)(hG:Calls qab 49 #[jh s] w fun e w'=>∃ra rc na nc,e=.returned (jk #[.agg #[jf ra rs.length rc,jf na ns.length nc],.int .i64 0])/\RulesIn w' (jf ra rs.length rc) rs/\NodesAt w' (jf na ns.length nc) ns/\Below w.heap.size w w') :
  Calls qab 22 #[jh s] w fun e w'=>e=.returned (jk #[jh (strOf (z88 rs ns)),.int .i64 0])/\Below w.heap.size w w':=by
 have HG:=qaa hG;have HP:=qaa fun ra na rc nc W hN hR=>yac4 rs ns ra na rs.length rc ns.length nc rfl rfl hk hw hl W hN hR
 clear hG hk hw hl;go_enter Tryz.func22,Tryz.ntmps22
 go_wp2_with (first
  |(go_at_call 49;(with_reducible refine HG.out.mono ?_);rintro e w1 ⟨ra,rc,na,nc,rfl,hR,hN,hb⟩;have hn:=zaa w1 (.cells #[jf ra rs.length rc,jf na ns.length nc] 25);have HB:=qaa (hb.trans (hn.mono hb.size));have HN1:=qaa (hN.kept hn (qac _));have HR1:=qaa (hR.kept hn (qac _));clear hb hn hR hN)
  |(go_at_call 11;(with_reducible refine(HP.out _ _ _ _ _ HN1.out HR1.out).mono ?_);rintro e w3 ⟨rfl,hb⟩;have HB3:=qaa (HB.out.trans (hb.mono HB.out.size));clear hb))
 refine bodyPost_ret (v:=jk #[jh (strOf (z88 rs ns)),.int .i64 0]) (by simp[results,Tryz.results22,go_sem]) rfl ?_;exact⟨rfl,HB3.out⟩
end
theorem yabl {f g:Nat->Bool}:∀k,(∀i,i<k->f i=g i)->z85 f k=z85 g k
 |0,_=>rfl
 |k+1,h=>by
  unfold z85;rw[h k U,yabl k fun i hi=>h i U]
theorem yagm {f g:Nat->Bool}(h:∀i,i<256->f i=g i):clsX f=clsX g:=by
 unfold clsX;rw[yafx h,yabl 256 h]
def runQ (l:List (Nat × Nat)):Nat:=(l.map fun x=>x.2-x.1+2).sum
theorem yabv (a b:List (Nat × Nat)):runQ (a++b)=runQ a+runQ b:=by unfold runQ;rw[qa5,qd7]
theorem yaj6 (f:Nat->Bool):∀k,k<=256->z85 f k=[]∨∃l a b,z85 f k=l++[(a,b)]/\a<=b/\b<k/\runQ (z85 f k)<=b+2
 |0,_=>.inl rfl
 |k+1,hk=>by
  have ih:=yaj6 f k U;unfold z85;cases hf:f k with
  |false=>
   rcases ih with h|⟨l,a,b,h1,h2,h3,h4⟩
   ·exact .inl h
   ·exact .inr ⟨l,a,b,h1,h2,U,h4⟩
  |true=>
   right;rw[if_pos rfl];rcases ih with h|⟨l,a,b,h1,h2,h3,h4⟩
   ·rw[h,z94]
    exact⟨[],k,k,rfl,qac _,U,by show k-k+2+0<=_;omega⟩
   ·rw[h1] at h4 ⊢
    rw[z9e];rw[yabv] at h4;have h4:runQ l+(b-a+2+0)<=b+2:=h4;split
    ·rename_i hb
     refine⟨l,a,k,rfl,U,U,?_⟩;rw[yabv];show runQ l+(k-a+2+0)<=_;omega
    ·rename_i hb
     refine⟨l++[(a,b)],k,k,rfl,qac _,U,?_⟩;rw[yabv,yabv];show runQ l+(b-a+2+0)+(k-k+2+0)<=_;omega
theorem yal5 (x:Nat × Nat):(runX x).length<=3*(x.2-x.1+2):=by
 unfold runX;have h1:=z9a x.1 true;have h2:=z9a x.2 true;rw[qad,qad];split<;>split<;>simp only[qah,List.length_nil]<;>omega
theorem yaed:∀l:List (Nat × Nat),(l.flatMap runX).length<=3*runQ l
 | []=>qac _
 |x::l=>by
  have:=yal5 x;have:=yaed l;have e:runQ (x::l)=(x.2-x.1+2)+runQ l:=rfl;rw[qat,qad,e];omega
theorem yak8 (f:Nat->Bool):(clsX f).length<=777:=by
 unfold clsX;split
 ·show 1<=_
  omega
 ·split
  ·rename_i h
   obtain⟨b,hb⟩:=List.length_eq_one_iff.1 h;have:=z9a b false;rw[hb,qat,qbu,qa6,qah,qad,qai];omega
  ·have:=yaed (z85 f 256)
   rw[qah,qad,qai];rcases yaj6 f 256 (qac _) with h|⟨l,a,b,-,-,h3,h4⟩
   ·rw[h]
    show 0+1+1<=_;omega
   ·omega
theorem yaij (b:Nat):(clsX fun i=>decide (i=b)).length<=6:=by
 by_cases hb:b<256
 ·have hm:memb (fun i=>decide (i=b)) 256=[b]:=by
   have hin:∀x,x ∈ memb (fun i=>decide (i=b)) 256↔x ∈ [b]:=fun x=>by
    rw[z9v,qam];constructor
    ·intro h
     simpa using h.2
    ·rintro rfl
     exact⟨hb,decide_eq_true rfl⟩
   have hp1:(memb (fun i=>decide (i=b)) 256).Pairwise (· < ·):=by unfold memb;exact List.Pairwise.filter _ List.pairwise_lt_range
   match hq:memb (fun i=>decide (i=b)) 256,hin,hp1 with
   | [],hin,_=>exact absurd ((hin b).2 qap) jc
   | [x],hin,_=>rw[qam.1 ((hin x).1 qap)]
   |x::y::r,hin,hp1=>
    have h1:=qam.1 ((hin x).1 qap);have h2:=qam.1 ((hin y).1 (List.mem_cons_of_mem _ qap));have h3:=(List.pairwise_cons.1 hp1).1 y qap;omega
  unfold clsX;rw[hm];have:=z9a b false;rw[if_neg (show ¬ [b].length=256 from by rw[qai];decide),if_pos (show [b].length=1 from rfl),qat,qbu,qa6,qah,qad,qai];omega
 ·have hm:memb (fun i=>decide (i=b)) 256=[]:=by
   unfold memb;rw[List.filter_eq_nil_iff];intro x hx;have:=List.mem_range.1 hx;simp;omega
  have hr:z85 (fun i=>decide (i=b)) 256=[]:=by rw[<-yadh,hm];rfl
  unfold clsX;rw[hm,hr];decide
theorem yaik:(clsX fun _=>true).length<=6:=by
 have hm:memb (fun _=>true) 256=List.range 256:=List.filter_eq_self.2 fun _ _=>rfl
 unfold clsX;rw[hm,List.length_range,if_pos rfl];exact(by decide:1<=6)
theorem yacl (g:Nat->Bool):z87 (clsN g):=⟨⟨zem g 0,zfw g 0⟩,⟨zem g 1,zfw g 1⟩,⟨zem g 2,zfw g 2⟩,⟨zem g 3,zfw g 3⟩⟩
theorem z9l:(0:Int)<=0/\(0:Int)<=18446744073709551615:=ja
theorem yabw (op:Int)(ks:List Int):z87 (mkN op ks):=⟨z9l,z9l,z9l,z9l⟩
theorem yagn (i:Nat):z87 (callN i):=⟨z9l,z9l,z9l,z9l⟩
theorem yal6 (g:Nat->Bool):cxN (clsN g)=clsX g:=by
 unfold cxN;refine yagm fun i hi=>?_
 have hw:wordN (clsN g) (i/64)=setW g (i/64):=by
  rcases(by omega:i/64=0∨i/64=1∨i/64=2∨i/64=3) with h|h|h|h<;>rw[h]<;>rfl
 unfold bitF;rw[hw,zfi _ _ _ U,show 64*(i/64)+i%64=i by omega]
def ptT (t:Tok):Nat:=if t.kind=13 then 777 else 6*t.text.length+6
def ptS (ts:List Tok):Nat:=(ts.map ptT).sum
def ptN (n:PN):Nat:=if n.op=1 then (cxN n).length else 0
def ptC (cs:List (List Nat × Nat)):Nat:=(cs.map fun c=>c.1.length).sum
def ptF (f:MF):Nat:=(f.nodes.map ptN).sum+ptC f.calls
def WsOk (f:MF):Prop:=∀n,n ∈ f.nodes->z87 n
def PtOk (b:Nat)(o:PO):Prop:=match o with
 |.ok a g=>ptF g+ptS a<=b/\WsOk g
 |.bad _ _=>True
def PtL (F:List Tok->MF->PO):Prop:=∀ts f,WsOk f->PtOk (ptF f+ptS ts) (F ts f)
theorem yaa7 (ts:List Tok):ptS ts.tail<=ptS ts:=by
 cases ts with
 |nil=>exact qac _
 |cons t r=>show _<=ptT t+ptS r;exact Nat.le_add_left _ _
theorem yaaw:ptF (addN f n)=ptF f+ptN n:=by
 show((f.nodes++[n]).map ptN).sum+_=_;rw[qa5,qd7];unfold ptF;show(f.nodes.map ptN).sum+(ptN n+0)+ptC f.calls=_;omega
theorem WsOk.add (h:WsOk f)(hn:z87 n):WsOk (addN f n):=fun m hm=>by
 rcases qau.1 hm with hm|hm
 ·exact h m hm
 ·rw[qam.1 hm];exact hn
theorem yafu {op:Int}{ks:List Int}(h:op≠1):ptN (mkN op ks)=0:=if_neg h
theorem yae0 (g:Nat->Bool):ptN (clsN g)=(clsX g).length:=by
 unfold ptN;rw[if_pos (show(clsN g).op=1 from rfl),yal6]
theorem yajr {t:Tok}:ptF (callF f t)=ptF f+t.text.length:=by
 show((f.nodes++[callN f.calls.length]).map ptN).sum+ptC (f.calls++[(t.text,t.at_)])=_;unfold ptC;rw[qa5,qd7,qa5,qd7];unfold ptF ptC;show(f.nodes.map ptN).sum+(ptN (callN f.calls.length)+0)+((f.calls.map _).sum+(t.text.length+0))=_;rw[show ptN (callN f.calls.length)=0 from if_neg (by show(2:Int)≠1;decide)];omega
theorem WsOk.call {t:Tok}(h:WsOk f):WsOk (callF f t):=fun m hm=>by
 rcases qau.1 hm with hm|hm
 ·exact h m hm
 ·rw[qam.1 hm];exact yagn _
theorem yae1 {op:Int}{ks:List Int}(h:op≠1)(hf:WsOk f):ptF (joinN f op ks)=ptF f/\WsOk (joinN f op ks):=by
 unfold joinN;split
 ·exact⟨by rw[yaaw,yafu ja];rfl,hf.add (yabw _ _)⟩
 ·exact⟨rfl,hf⟩
 ·exact⟨by rw[yaaw,yafu h];rfl,hf.add (yabw _ _)⟩
theorem yail:∀(l:List Nat) (f:MF) (ks:List Int),WsOk f->ptF (litF f l ks).1<=ptF f+6*l.length/\WsOk (litF f l ks).1
 | [],f,_,h=>⟨qac _,h⟩
 |c::r,f,ks,h=>by
  have ih:=yail r (addN f (clsN fun i=>decide (i=c))) (ks++[(f.nodes.length:Int)]) (h.add (yacl _));rw[yaaw,yae0] at ih;have:=yaij c;refine⟨?_,ih.2⟩;show ptF (litF (addN f (clsN fun i=>decide (i=c))) r _).1<=_;rw[qah];omega
theorem PtOk.acc (h:ptF f+ptS ts<=b)(hw:WsOk f):PtOk b (Go.Proofs.YtmopdlbpkiaoeaaGreatDoor.acc st ts f):=by
 unfold Go.Proofs.YtmopdlbpkiaoeaaGreatDoor.acc;split
 ·trivial
 ·exact⟨h,hw⟩
theorem PtOk.bind {o:PO}{k:List Tok->MF->PO}(h:PtOk b o)(hk:∀a g,ptF g+ptS a<=b->WsOk g->PtOk b (k a g)):PtOk b (o.bind k):=by
 cases o with
 |ok a g=>exact hk a g h.1 h.2
 |bad a d=>trivial
theorem PtOk.le {c:Nat}{o:PO}(h:PtOk b o)(hb:b<=c):PtOk c o:=by
 cases o with
 |ok a g=>exact⟨Nat.le_trans h.1 hb,h.2⟩
 |bad a d=>trivial
theorem PtL.at {F:List Tok->MF->PO}(h:PtL F)(hb:ptF f+ptS ts<=b)(hw:WsOk f):PtOk b (F ts f):=(h ts f hw).le hb
theorem PtL.clos (st:Bool):PtL (closL st):=fun ts f hw=>by
 unfold closL;split
 ·exact PtOk.acc (by have:=yaa7 ts;omega) hw
 ·trivial
theorem PtL.prim {rec:List Tok->MF->PO}(h:PtL rec):PtL (primL st room rec):=fun ts f hw=>by
 unfold primL;cases ts with
 |nil=>trivial
 |cons t tl=>
  have e:ptS (t::tl)=ptT t+ptS tl:=rfl;have e1:t.kind=13->ptT t=777:=fun h=>if_pos h
  have e2:t.kind≠13->ptT t=6*t.text.length+6:=fun h=>if_neg h
  dsimp only;rw[e];by_cases k1:t.kind=1
  ·rw[if_pos k1]
   have:=e2 U;split
   ·trivial
   ·exact PtOk.acc (by rw[yajr];omega) hw.call
  rw[if_neg k1];by_cases k9:t.kind=9
  ·rw[if_pos k9]
   split
   ·trivial
   ·refine(PtOk.acc U hw).bind fun a g hb hw=>?_
    exact(h.at hb hw).bind fun c k hb hw=>(PtL.clos st).at hb hw
  rw[if_neg k9];by_cases k12:t.kind=12
  ·rw[if_pos k12]
   have:=e2 U;have h1:=yail t.text f [] hw;have h2:=yae1 (ks:=(litF f t.text []).2) (by decide:(3:Int)≠1) h1.2;refine PtOk.acc ?_ h2.2;show ptF (joinN (litF f t.text []).1 3 (litF f t.text []).2)+_<=_;rw[h2.1];omega
  rw[if_neg k12];by_cases k13:t.kind=13
  ·rw[if_pos k13]
   have:=e1 k13;have:=yak8 (inRs t.rs);refine PtOk.acc ?_ (hw.add (yacl _));rw[yaaw,yae0];omega
  rw[if_neg k13];by_cases k11:t.kind=11
  ·rw[if_pos k11]
   have:=e2 k13;have:=yaik;refine PtOk.acc ?_ (hw.add (yacl _));rw[yaaw,yae0];omega
  rw[if_neg k11];trivial
theorem PtL.sufK (st:Bool):PtL (Go.Proofs.YtmopdlbpkiaoeaaGreatDoor.sufK st):=fun ts f hw=>by
 unfold Go.Proofs.YtmopdlbpkiaoeaaGreatDoor.sufK;split
 ·refine PtOk.acc ?_ (hw.add (yabw _ _))
  have:=yaa7 ts;rw[yaaw,yafu (by unfold sufOp;split<;>(try split)<;>decide)];omega
 ·exact⟨qac _,hw⟩
theorem PtL.suf {rec:List Tok->MF->PO}(h:PtL rec):PtL (sufL st room rec):=fun ts f hw=>
 (PtL.prim h ts f hw).bind fun _ _ hb hw=>(PtL.sufK st).at hb hw
theorem PtL.pre {rec:List Tok->MF->PO}(h:PtL rec):PtL (preL st room rec):=fun ts f hw=>by
 unfold preL;split
 ·refine(PtOk.acc (by have:=yaa7 ts;omega) hw).bind fun a g hb hw=>?_
  refine((PtL.suf h).at hb hw).bind fun c k hb hw=>?_
  exact⟨by rw[yaaw,yafu (by unfold preOp;split<;>decide)];omega,hw.add (yabw _ _)⟩
 ·exact PtL.suf h ts f hw
theorem PtL.parts {top:Bool}{pre:List Tok->MF->PO}(h:PtL pre):∀(n:Nat) (ks:List Int),PtL fun ts f=>zb8 top pre n ts f ks
 |0,_=>fun _ _ _=>trivial
 |n+1,ks=>fun ts f hw=>by
  show PtOk _ (zb8 top pre (n+1) ts f ks);cases hb:begB top ts with
  |true=>
   rw[zbw hb];exact(h ts f hw).bind fun a g hb hw=>(PtL.parts h n _).at hb hw
  |false=>
   rw[za7 hb];have:=yae1 (ks:=ks) (by decide:(3:Int)≠1) hw;exact⟨by rw[this.1];exact qac _,this.2⟩
theorem PtL.seq {top:Bool}{pre:List Tok->MF->PO}(h:PtL pre):PtL (seqL top pre):=fun ts f hw=>PtL.parts h _ [] ts f hw
theorem PtL.alts {st:Bool}{sq:List Tok->MF->PO}(h:PtL sq):∀(n:Nat) (ks:List Int),PtL fun ts f=>altsL st sq n ts f ks
 |0,_=>fun _ _ _=>trivial
 |n+1,ks=>fun ts f hw=>by
  show PtOk _ (altsL st sq (n+1) ts f ks);rw[zch];refine(h ts f hw).bind fun a g hb hw=>?_
  split
  ·exact(PtOk.acc (by have:=yaa7 a;omega) hw).bind fun c k hb hw=>(PtL.alts h n _).at hb hw
  ·have:=yae1 (ks:=ks++[lastI g]) (by decide:(4:Int)≠1) hw
   exact⟨by rw[this.1];exact hb,this.2⟩
theorem PtL.none:PtL fun a _=>.bad a false:=fun _ _ _=>trivial
theorem PtL.expr (st:Bool):∀(r:Nat) (top:Bool),PtL (exprL st r top)
 |0,_=>fun ts f hw=>PtL.alts (PtL.seq (PtL.pre PtL.none)) _ [] ts f hw
 |r+1,_=>fun ts f hw=>PtL.alts (PtL.seq (PtL.pre (PtL.expr st r false))) _ [] ts f hw
theorem PtL.def {F:List Tok->MF->PO}(h:PtL F)(hb:ptF f+ptS ts<=b+(txt ts).length)(hw:WsOk f)(hk:kd ts=1->(txt ts).length+ptS ts.tail<=ptS ts):PtOk b (defL st F ts f):=by
 unfold defL;split
 ·rename_i h1
  refine(PtOk.acc (b:=b) ?_ hw).bind fun a g hb hw=>?_
  ·have:=hk h1
   cases ts with
   |nil=>cases h1
   |cons t tl=>
    have h1:t.kind=1:=h1;have e:ptS (t::tl)=ptT t+ptS tl:=rfl;have e2:ptT t=6*t.text.length+6:=if_neg U;have e3:(txt (t::tl)).length=t.text.length:=rfl;show ptF f+ptS tl<=b;omega
  ·split
   ·exact(PtOk.acc (by have:=yaa7 a;omega) hw).bind fun c k hb hw=>h.at hb hw
   ·trivial
 ·trivial
def ptR (rs:List (List Nat × Nat × Int)):Nat:=(rs.map fun r=>r.1.length).sum
theorem yafv (rs:List (List Nat × Nat × Int))(r:List Nat × Nat × Int):ptR (rs++[r])=ptR rs+r.1.length:=by
 unfold ptR;rw[qa5,qd7];rfl
theorem yaim {st:Bool}{F:List Tok->MF->PO}(h:PtL F):∀(n:Nat) (ts:List Tok) (f g:MF) (rs rs':List (List Nat × Nat × Int)),WsOk f->defsL st F n ts f rs=.ok rs' g->ptR rs'+ptF g<=ptR rs+ptF f+ptS ts/\WsOk g
 |0,_,_,_,_,_,_,e=>by cases e
 |n+1,ts,f,g,rs,rs',hw,e=>by
  unfold defsL at e;have hk:kd ts=1->(txt ts).length+ptS ts.tail<=ptS ts:=fun h1=>by
   cases ts with
   |nil=>cases h1
   |cons t tl=>
    have h1:t.kind=1:=h1;have e:ptS (t::tl)=ptT t+ptS tl:=rfl;have e2:ptT t=6*t.text.length+6:=if_neg U;have e3:(txt (t::tl)).length=t.text.length:=rfl;show t.text.length+ptS tl<=_;omega
  cases hd:defL st F ts f with
  |bad a d=>rw[hd] at e;cases e
  |ok a k=>
   have h1:=zq9 hd;have hle:(txt ts).length<=ptS ts:=by have:=hk h1;omega
   have hp:=PtL.def (st:=st) h (b:=ptF f+ptS ts-(txt ts).length) (ts:=ts) (f:=f) U hw hk;rw[hd] at e hp;dsimp only at e;obtain⟨p1,p2⟩:=hp;split at e
   ·cases e
    rw[yafv];exact⟨by show ptR rs+(txt ts).length+_<=_;omega,p2⟩
   ·have ih:=yaim h n a k g _ _ p2 e
    rw[yafv] at ih;exact⟨by have h3:=ih.1;have h3:ptR rs'+ptF g<=ptR rs+(txt ts).length+ptF k+ptS a:=h3;omega,ih.2⟩
theorem yak9 (l:List Nat):∀(n p:Nat),p<=l.length->l.length-p<=n->ptS (strm l p)<=777*(l.length-p)+6:=by
 have hone:∀(t:Tok) (p m:Nat),p+t.text.length<=m->p<m->ptT t<=777*(m-p):=fun t p m h1 h2=>by
  unfold ptT;split<;>omega
 have hend:∀(k:Nat),ptS [⟨99,k,[],[]⟩]=6:=fun k=>rfl
 intro n
 induction n with
 |zero=>
  intro p hp hn;cases h:nextL l p with
  |error k=>rw[zcg h,hend];omega
  |ok y=>
   obtain⟨t,m⟩:=y;rcases za6 l p hp t m h with⟨h0,hm⟩|⟨h0,h1,h2⟩
   ·have ht:=zfk l p t m h
    rw[zbt h h0];show ptT t+0<=_;unfold ptT;rw[if_neg U];omega
   ·omega
 |succ n ih=>
  intro p hp hn;cases h:nextL l p with
  |error k=>rw[zcg h,hend];omega
  |ok y=>
   obtain⟨t,m⟩:=y;have ht:=zfk l p t m h;rcases za6 l p hp t m h with⟨h0,hm⟩|⟨h0,h1,h2⟩
   ·rw[zbt h h0]
    show ptT t+0<=_;unfold ptT;rw[if_neg U];omega
   ·rw[zbe h h0 ⟨h1,h2⟩]
    show ptT t+ptS (strm l m)<=_;have:=ih m h2 U;have:=hone t p m ht.1 h1;omega
theorem yala {l:List Nat}{rs:List (List Nat × Nat × Int)}(h:zaz l=.ok rs f):ptR rs+ptF f<=777*l.length+6/\WsOk f:=by
 have h1:=yaim (PtL.expr true 200 true) _ _ _ _ _ _ (fun n hn=>by cases hn) h;have h2:=yak9 l _ 0 (qaj _) (qac _);have e:ptF ⟨[],[]⟩=0:=rfl;have e2:ptR []=0:=rfl;exact⟨U,h1.2⟩
theorem yae2 {l m:List ByteArray}(h:z87 n):z87 (gNode l m n):=by
 unfold gNode;split
 ·exact h
 ·exact h
theorem yago {l m:List ByteArray}(h:WsOk f):∀n,n ∈ zan l m f.nodes->z87 n:=fun n hn=>by
 obtain⟨x,hx,rfl⟩:=List.mem_map.1 hn;exact yae2 (h x hx)
theorem yac5 {ns:List PN}{w:Nat->Nat}{nm:Int->List Nat}{f:MF}(hl:ns.length=f.nodes.length)(hC:COk f)(hw:∀(j:Nat) (n:PN),f.nodes[j]?=some n->w j<=(if n.op=2 then (match f.calls[cnt2 (f.nodes.take j)]? with|some c=>c.1.length|none=>0) else ptN n)+2):∀j,j<=f.nodes.length->wSum w j<=((f.nodes.take j).map ptN).sum+ptC (f.calls.take (cnt2 (f.nodes.take j)))+10*j
 |0,_=>qaj _
 |j+1,hj=>by
  have ih:=yac5 (nm:=nm) hl hC hw j U;obtain⟨n,hn⟩:∃n,f.nodes[j]?=some n:=⟨_,qae U⟩;have h1:=hw j n hn;have e1:f.nodes.take (j+1)=f.nodes.take j++[n]:=take_one hn;have e2:((f.nodes.take (j+1)).map ptN).sum=((f.nodes.take j).map ptN).sum+ptN n:=by rw[e1,qa5,qd7];rfl
  show wSum w j+(w j+8)<=_;rw[e2];by_cases h2:n.op=2
  ·rw[if_pos h2] at h1
   have hc:cnt2 (f.nodes.take (j+1))=cnt2 (f.nodes.take j)+1:=by rw[e1,zjn,if_pos h2]
   have hlt:cnt2 (f.nodes.take j)<f.calls.length:=by
    have h5:=List.Sublist.countP_le (p:=fun n:PN=>decide (n.op=2)) (qga (j+1) f.nodes);have h5:cnt2 (f.nodes.take (j+1))<=cnt2 f.nodes:=h5;have:=hC.1;omega
   obtain⟨c,hcc⟩:∃c,f.calls[cnt2 (f.nodes.take j)]?=some c:=⟨_,qae hlt⟩;rw[hcc] at h1;have e3:ptC (f.calls.take (cnt2 (f.nodes.take (j+1))))=ptC (f.calls.take (cnt2 (f.nodes.take j)))+c.1.length:=by
    rw[hc,take_one hcc];unfold ptC;rw[qa5,qd7];rfl
   rw[e3];dsimp only at h1;omega
  ·rw[if_neg h2] at h1
   have hc:cnt2 (f.nodes.take (j+1))=cnt2 (f.nodes.take j):=by rw[e1,zjn,if_neg h2];rfl
   rw[hc];omega
theorem yae3 {l:List Nat}{rs:List (List Nat × Nat × Int)}(h:zaz l=.ok rs f)(hl:l.length<=1000)(hC:COk f)(hu:undO (nmR rs) f=none)(hk:chkL (zam rs) (zan (nmR rs) (nmC f) f.nodes)=.ok) :
  (z88 (zam rs) (zan (nmR rs) (nmC f) f.nodes)).length<=1000000/\∀n,n ∈ zan (nmR rs) (nmC f) f.nodes->z87 n:=by
 obtain⟨hp,hws⟩:=yala h;refine⟨?_,yago hws⟩;obtain⟨g1,g2,-,-,-,g6,-⟩:=z3k hk;have hnl:(zan (nmR rs) (nmC f) f.nodes).length=f.nodes.length:=qaw _;have hrl:(zam rs).length=rs.length:=qaw _;obtain⟨w,hw⟩:∃w:Nat->Nat,w=fun j=>match (zan (nmR rs) (nmC f) f.nodes)[j]? with|some n=>ownX (nmOf (zam rs)) cxN n|none=>0:=⟨_,rfl⟩
 have hwi:∀(j:Nat) (n:PN),(zan (nmR rs) (nmC f) f.nodes)[j]?=some n->ownX (nmOf (zam rs)) cxN n<=w j:=fun j n hn=>by
  rw[hw];dsimp only;rw[hn];exact qac _
 have hlen:=yaca (nm:=nmOf (zam rs)) (cx:=cxN) (zuh g6) (w:=w) hwi (zam rs) (-1) U g6;have hund:∀(c:Nat) (x:List Nat × Nat),f.calls[c]?=some x->∃j,fndL (nmR rs) (strOf x.1)=some j:=fun c x hx=>by
  have hn:fbad (undB (nmR rs) (nmC f)) f.calls.length 0=none:=by
   cases hb:fbad (undB (nmR rs) (nmC f)) f.calls.length 0 with
   |none=>rfl
   |some k=>
    have hlk:=(zfu _ _ _ hb).2.1;obtain⟨y,hy⟩:∃y,f.calls[k]?=some y:=⟨_,qae U⟩;unfold undO at hu;rw[hb,Option.bind_some,hy] at hu;cases hu
  have:=zdp _ _ hn c (qaj _) (by have:=(List.getElem?_eq_some_iff.1 hx).1;omega);rw[zjm (x:=strOf x.1) (by unfold nmC;rw[qax,hx];rfl)] at this;cases hf:fndL (nmR rs) (strOf x.1) with
  |none=>rw[hf] at this;cases this
  |some j=>exact⟨j,rfl⟩
 have hsum:=yac5 (w:=w) (nm:=nmOf (zam rs)) (f:=f) hnl hC (fun j n hn=>by
  rw[hw];dsimp only;have hg:(zan (nmR rs) (nmC f) f.nodes)[j]?=some (gNode (nmR rs) (nmC f) n):=by unfold zan;rw[qax,hn];rfl
  rw[hg];dsimp only;by_cases h2:n.op=2
  ·rw[if_pos h2]
   have hr:=hC.2 j n hn h2;have hlt:cnt2 (f.nodes.take j)<f.calls.length:=by
    have e1:f.nodes.take (j+1)=f.nodes.take j++[n]:=take_one hn;have hc:cnt2 (f.nodes.take (j+1))=cnt2 (f.nodes.take j)+1:=by rw[e1,zjn,if_pos h2]
    have h5:cnt2 (f.nodes.take (j+1))<=cnt2 f.nodes:=List.Sublist.countP_le (p:=fun n:PN=>decide (n.op=2)) (qga (j+1) f.nodes);have:=hC.1;omega
   obtain⟨c,hcc⟩:∃c,f.calls[cnt2 (f.nodes.take j)]?=some c:=⟨_,qae hlt⟩;rw[hcc];dsimp only;obtain⟨q,hq⟩:=hund _ c hcc;have hgn:gNode (nmR rs) (nmC f) n=⟨n.op,n.kids,(q:Int),n.s0,n.s1,n.s2,n.s3⟩:=by
    unfold gNode;rw[if_pos h2,hr,qa8];have:(nmC f).getD (cnt2 (f.nodes.take j)) ByteArray.empty=strOf c.1:=by
     unfold nmC;rw[List.getD_eq_getElem?_getD,qax,hcc];rfl
    rw[this,hq];rfl
   rw[hgn];unfold ownX;dsimp only;rw[if_neg U,if_pos h2];have hs:=(zfc hq).1;unfold nmR at hs;rw[qax] at hs;obtain⟨r,hr2,e⟩:=Option.map_eq_some_iff.1 hs;have hgr:(zam rs)[q]?=some ⟨strOf r.1,r.2.2⟩:=by unfold zam;rw[qax,hr2];rfl
   unfold nmOf;rw[qa8,hgr];dsimp only;rw[zaj,e,zb0];omega
  ·rw[if_neg h2]
   have hgn:gNode (nmR rs) (nmC f) n=n:=if_neg h2;rw[hgn];unfold ownX ptN;rw[if_neg h2];split<;>omega) f.nodes.length (qac _)
 rw[qbz] at hsum;have hcall:ptC (f.calls.take (cnt2 f.nodes))<=ptC f.calls:=by
  rw[hC.1,qbz];exact qac _
 have hrs:((zam rs).map fun r=>r.name.size+5).sum=ptR rs+5*rs.length:=by
  have:∀l:List (List Nat × Nat × Int),((zam l).map fun r=>r.name.size+5).sum=ptR l+5*l.length:=by
   intro l
   induction l with
   |nil=>rfl
   |cons r l ih=>
    have e:zam (r::l)=⟨strOf r.1,r.2.2⟩::zam l:=rfl;have e2:ptR (r::l)=r.1.length+ptR l:=rfl;rw[e,List.map_cons,List.sum_cons,ih,e2,qah];show(strOf r.1).size+5+_=_;rw[zb0];omega
  exact this rs
 unfold ptF at hp;unfold z88;rw[hnl] at hlen;rw[hrs] at hlen;have h0:wSum w ((-1:Int)+1).toNat=0:=rfl;omega
section
open Go.RowKit
theorem yacm (s:ByteArray)(w:World)(hl:SignsAt w)(hS:SgnAt w)(hE:w.cell? ⟨2,0,none⟩=some (rt 35)) :
  Calls qab 6 #[jh s] w fun e w'=>e=.returned (ji true)/\Below w.heap.size w w':=by
 by_cases hs:1000<s.size
 ·exact yagk s w (awk10 hl hS) hs
 ·have hs2:s.size<=1000:=U
  have hs3:s.size<=1050000:=U
  rcases zyp s w hl hs3 with⟨hc,h1,h2⟩|⟨rs,f,hO,hd,hu,hK,hk,h1,h2⟩
  ·refine yaih s _ w (awk10 hl hS) hs2 hc (fun W hb=>yad8 s W (h1 W hb)) (fun W _=>yagl s W hc (h2 W)) ?_
   intro er ty iv W hb hv hco hin;have h:=zm6 er _ W hco hin (((bcell hb).1 _ _ (zai hE)).trans hE);rw[hv] at h;exact h
  ·obtain⟨hpl,hpw⟩:=yae3 hO (by rw[zaj];exact hs2) hK.ok hu hk
   exact yajq s (strOf (z88 (zam rs) (zan (nmR rs) (nmC f) f.nodes))) w (awk10 hl hS) hs2
    (fun W hb=>yabt s W (hS.kept hb (qac _)) hk hpw hpl (h1 W hb))
    (fun W _=>yaii s W hk hpw hpl (h2 W))
    (fun W hb=>yabt _ W (hS.kept hb (qac _)) hk hpw hpl (yaj5 hk hpw hpl W (hl.kept hb (qac _))))
end
