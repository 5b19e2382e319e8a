/- The reference: all tokens. The reference: its state; kind, wrong, add. append(append([]T{}, xs...), y): what is known of the blocks while its operations are dra -/
import Derived.Deep.QuietTactic
import Derived.Deep.Cut
import Derived.Test.YtmopdlbpkiaoeaaGreatDoorPqL
set_option maxRecDepth 100000
set_option maxHeartbeats 4000000
open Go.IntKind renaming i64->jd, u64->jg
open Go.Value renaming int->je, slice->jf, string->jh, bool->ji, pointer->jj, tuple->jk
namespace Go.Proofs.YtmopdlbpkiaoeaaGreatDoor
open _root_.Array renaming length_toList->qc8
open Bool renaming eq_iff_iff->qcd
open Go.Addr renaming add_lit->qce
open Go.IntWalk renaming i64_in->qaq
open Go.Lib renaming hid->qaa
open Go.Proofs.Tryz renaming prog->qab, underlying23->qdq
open Go.Proofs.YtmopdlbpkiaoeaaGreatDoor.Bl renaming put->qcc
open Go.RowKit.Below renaming refl->qaf
open Go.World renaming grownBy_alloc->qdu, ownsRow_nil->qav
open List renaming append_assoc->qao, getElem?_append_left->qb4, getElem?_append_right->qbg, getElem?_take->qd2, length_append->qad, length_drop->qa2, length_singleton->qai, length_take->qbn, mem_singleton->qam, nil_append->qbi, size_toArray->qct
open Nat renaming le_refl->qac, le_trans->qal, zero_add->qbc
variable {cs:Array Value}{rs:List (List Nat × Nat × Int)}{ts:List Tok}{qs xs:List Value}{f:MF}{X b n n0:Nat}{t:Tok}{e:TypeId}{W w w':World}
section
open Go.RowKit
def kI (k:Nat):Int:=if k=99 then -1 else (k:Int)
def rtokC (t:Tok):List Value:=[je jd (kI t.kind),je jd (t.at_:Int),jh (strOf t.text),je jg (setW (inRs t.rs) 0),je jg (setW (inRs t.rs) 1),je jg (setW (inRs t.rs) 2),je jg (setW (inRs t.rs) 3)]
def zgr (ts:List Tok):List Value:=ts.flatMap rtokC
theorem zf2 (ts:List Tok)(t:Tok):zgr (ts++[t])=zgr ts++rtokC t:=by unfold zgr;rw[List.flatMap_append];simp
theorem zwi (h:t.kind≠99):rtokC t=tokC t:=by unfold rtokC tokC kI;rw[if_neg h]
def z4f (T:List Tok)(w:World)(e:Ending)(w':World):Prop:=∃v,e=.returned v/\w'.ownsRow w.heap.size 169 7 v T.length (zgr T)/\Below w.heap.size w w'
theorem zpz (s:ByteArray)(w:World)(hs:s.size<=1050000):Calls qab 104 #[jh s] w (z4f (strm (bts s) 0) w):=by
 obtain⟨i0,hi0,hz0,hz1,hz2⟩:=info_parts z36;have HB0:=qaa (qaf w.heap.size w);go_enter Tryz.func104,Tryz.ntmps104;go_wp2
 go_loopw [3,4] (fun v c wr=>∃(k:Nat) (acc:List Tok),k<=s.size/\c=je jd k/\wr.ownsRow w.heap.size 169 7 v acc.length (zgr acc)/\Below w.heap.size w wr/\acc.length<=k/\strm (bts s) 0=acc++strm (bts s) k) (fun _ c _=>s.size-(intOf c).toNat)
 case atStart=>exact⟨0,[],Nat.zero_le _,rfl,qav _ _ _ _,HB0.out,qac _,rfl⟩
 case round=>
  obtain⟨k,acc,hk,rfl,hs3,hb,hac,hu⟩:=hrel;have HU:=qaa hu;have hsz:=hb.size;obtain⟨va,vc,rfl⟩:=zag hs3;clear hu;cases hn:nextL (bts s) k with
  |error b=>
   have hr:strm (bts s) 0=acc++[⟨99,b,[],[]⟩]:=by rw[HU.out,zcg hn]
   have HR:=qaa hr;have HN:=qaa hn;have b0:0<=(b:Int):=U
   have htc:rtokC ⟨99,b,[],[]⟩=[je jd (-1),je jd (b:Int),jh ⟨#[]⟩,je jg 0,je jg 0,je jg 0,je jg 0]:=by
    unfold rtokC;simp only[zc6];rfl
   have HTC:=qaa htc;clear hr hn htc
   go_wp2_with (first
    |(go_at_call 131;(with_reducible refine(zvv s k b _ hs hk HN.out).mono ?_);rintro e w1 ⟨rfl,hb1⟩;have hs1:=zab hs3 hb1;have hB1:=hb.trans (hb1.mono hsz);have hsz1:=hb1.size;clear hb1)
    |(at_builtin;refine wpList_append_own _ rfl _ _ 164 rfl w.heap.size 169 i0 (.agg #[je jd 0,je jd 0,jh ⟨#[]⟩,je jg 0,je jg 0,je jg 0,je jg 0]) 7 64 Tryz.underlying164 hi0 hz0 hz1 hz2 rfl ja _ _ _ rfl ((hs1.alloc _).alloc _) ⟨w1.heap.size+1,0,none⟩ 1 1 [je jd (-1),je jd (b:Int),jh ⟨#[]⟩,je jg 0,je jg 0,je jg 0,je jg 0] rfl rfl (zcd w1 _ _ 169) (by simp[Value.oneCell']) (by unfold maxLen;omega) U (by simp;omega) ?_;intro v' w2 hown' hgrow _))
   have hB2:=((hB1.alloc U _).alloc (by simp;omega) _).grown hgrow (by simp;omega) (fun k e=>(hs1.lt k e).1);go_ret;refine⟨_,rfl,?_,hB2⟩;rw[HR.out,zf2,HTC.out,qad];exact hown'
  |ok x=>
   obtain⟨t,n⟩:=x;have hm:=za6 (bts s) k (by rw[zaj];exact hk) t n hn;rw[zaj] at hm;have h99:t.kind≠99:=by have:=zd8 hn;omega
   have htc:=qaa (zwi h99);have HN:=qaa hn;have bneg:¬(0:Int) <= -1:=U
   by_cases ht:t.kind=0
   ·have hr:strm (bts s) 0=acc++[t]:=by rw[HU.out,zbt hn ht]
    have HR:=qaa hr;have ht0:((t.kind:Int) == 0)=true:=by rw[beq_iff_eq];omega
    clear hr hn hm ht h99
    go_wp2_with (first
     |(go_at_call 131;(with_reducible refine(zrd s k t n _ hs hk HN.out).mono ?_);rintro e w1 ⟨rfl,hb1⟩;have hs1:=zab hs3 hb1;have hB1:=hb.trans (hb1.mono hsz);have hsz1:=hb1.size;clear hb1)
     |(at_builtin;refine wpList_append_own _ rfl _ _ 164 rfl w.heap.size 169 i0 (.agg #[je jd 0,je jd 0,jh ⟨#[]⟩,je jg 0,je jg 0,je jg 0,je jg 0]) 7 64 Tryz.underlying164 hi0 hz0 hz1 hz2 rfl ja _ _ _ rfl ((hs1.alloc _).alloc _) ⟨w1.heap.size+1,0,none⟩ 1 1 (tokC t) rfl rfl (zcd w1 (.cells (tokC t).toArray 169) (tokC t) 169) (by simp[tokC,Value.oneCell']) (by unfold maxLen;omega) U (by simp;omega) ?_;intro v' w2 hown' hgrow _;have hkc:=zii hs1 hgrow rfl))
    have hB2:=((hB1.alloc U _).alloc (by simp;omega) _).grown hgrow (by simp;omega) (fun k e=>(hs1.lt k e).1);go_ret;refine⟨_,rfl,?_,hB2⟩;rw[HR.out,zf2,htc.out,qad];exact hown'
   ·have hmv:k<n/\n<=s.size:=by
     rcases hm with h|h
     ·exact absurd h.1 ht
     ·exact h.2
    have hr:strm (bts s) 0=(acc++[t])++strm (bts s) n:=by rw[HU.out,zbe hn ht (by rw[zaj];exact hmv)];simp
    have HR:=qaa hr;have ht0:((t.kind:Int) == 0)=false:=by rw[beq_eq_false_iff_ne];omega
    clear hr hn hm h99
    go_wp2_with (first
     |(go_at_call 131;(with_reducible refine(zrd s k t n _ hs hk HN.out).mono ?_);rintro e w1 ⟨rfl,hb1⟩;have hs1:=zab hs3 hb1;have hB1:=hb.trans (hb1.mono hsz);have hsz1:=hb1.size;clear hb1)
     |(at_builtin;refine wpList_append_own _ rfl _ _ 164 rfl w.heap.size 169 i0 (.agg #[je jd 0,je jd 0,jh ⟨#[]⟩,je jg 0,je jg 0,je jg 0,je jg 0]) 7 64 Tryz.underlying164 hi0 hz0 hz1 hz2 rfl ja _ _ _ rfl ((hs1.alloc _).alloc _) ⟨w1.heap.size+1,0,none⟩ 1 1 (tokC t) rfl rfl (zcd w1 (.cells (tokC t).toArray 169) (tokC t) 169) (by simp[tokC,Value.oneCell']) (by unfold maxLen;omega) U (by simp;omega) ?_;intro v' w2 hown' hgrow _;have hkc:=zii hs1 hgrow rfl))
    have hB2:=((hB1.alloc U _).alloc (by simp;omega) _).grown hgrow (by simp;omega) (fun k e=>(hs1.lt k e).1);have ho2:w2.ownsRow w.heap.size 169 7 v' (acc++[t]).length (zgr (acc++[t])):=by rw[zf2,htc.out,qad];exact hown'
    have HO2:=qaa ho2;clear hown' ho2;go_roundw
    case rel=>exact⟨n,acc++[t],hmv.2,by go_num,HO2.out,hB2,by simp;omega,HR.out⟩
    case measure=>simp[intOf];omega
end
section
open Go.RowKit
structure RC where
 base:Nat
 T:List Tok
 one:Bool
structure SV where
 la:Option Addr
 lc:Nat
 i:Int
 ra:Option Addr
 rn:Nat
 rc:Nat
 na:Option Addr
 nn:Nat
 nc:Nat
 ca:Option Addr
 cn:Nat
 cc:Nat
 bad:Int
 dp:Bool
def SV.v (x:SV)(R:RC):Value:=.agg #[jf x.la R.T.length x.lc,je jd x.i,jf x.ra x.rn x.rc,jf x.na x.nn x.nc,jf x.ca x.cn x.cc,je jd x.bad,ji x.dp,ji R.one]
def RFix (R:RC)(x:SV)(W:World):Prop:=W.ownsRow R.base 169 7 (jf x.la R.T.length x.lc) R.T.length (zgr R.T)/\R.T.length<=2000000
def RSt (R:RC)(rs:List (List Nat × Nat × Int))(ts:List Tok)(f:MF)(qs:List Value)(x:SV)(W:World):Prop:=
 RFix R x W/\x.bad=-1/\x.dp=false/\(∃n:Nat,x.i=n/\R.T.drop n=ts)/\ts≠[]/\x.rn=rs.length/\x.nn=f.nodes.length/\x.cn=f.calls.length /\
  NRow R.base (jf x.na x.nn x.nc) f.nodes qs W/\W.ownsRow R.base 176 2 (jf x.ca x.cn x.cc) f.calls.length (zcw f.calls)/\W.ownsRow R.base 173 3 (jf x.ra x.rn x.rc) rs.length (defsC rs)
def RF (R:RC)(rs:List (List Nat × Nat × Int))(ts:List Tok)(f:MF)(qs:List Value)(lo:Nat)(x:SV)(W:World):Prop:=∃tq,RSt R rs ts f (qs++tq) x W/\∀q,q ∈ tq->∀b,q.ownBlock=some b->lo<=b
def DRow (R:RC)(rs:List (List Nat × Nat × Int))(x:SV)(W:World):Prop:=x.rn=rs.length/\W.ownsRow R.base 173 3 (jf x.ra x.rn x.rc) rs.length (defsC rs)
def RBad (R:RC)(rs:List (List Nat × Nat × Int))(a:List Tok)(dp:Bool)(x:SV)(W:World):Prop:=RFix R x W/\x.dp=dp/\(∃n:Nat,x.bad=n/\R.T.drop n=a)/\a≠[]/\DRow R rs x W
section
variable {R:RC} {rs:List (List Nat × Nat × Int)} {ts a:List Tok} {f:MF} {x:SV} {W W':World} {dp:Bool}
theorem RFix.below (h:RFix R x W)(hb:Below W.heap.size W W'):RFix R x W':=⟨zab h.1 hb,h.2⟩
theorem RSt.below (h:RSt R rs ts f qs x W)(hb:Below W.heap.size W W'):RSt R rs ts f qs x W':=by
 obtain⟨h1,h2,h3,h4,h5,h6,h7,h8,h9,h10,h11⟩:=h;exact⟨h1.below hb,h2,h3,h4,h5,h6,h7,h8,h9.grown hb,zab h10 hb,zab h11 hb⟩
theorem RF.below {lo:Nat}(h:RF R rs ts f qs lo x W)(hb:Below W.heap.size W W'):RF R rs ts f qs lo x W':=by
 obtain⟨tq,h1,h2⟩:=h;exact⟨tq,h1.below hb,h2⟩
theorem RF.trans {tq:List Value}{lo lo':Nat}(h:RF R rs ts f (qs++tq) lo' x W)(ht:∀q,q ∈ tq->∀b,q.ownBlock=some b->lo<=b)(hl:lo<=lo'):RF R rs ts f qs lo x W:=by
 obtain⟨t2,h1,h2⟩:=h;refine⟨tq++t2,by rw[<-qao];exact h1,fun q hq b hb=>?_⟩;rcases List.mem_append.1 hq with hq|hq
 ·exact ht q hq b hb
 ·exact qal hl (h2 q hq b hb)
theorem RF.lo {lo lo':Nat}(h:RF R rs ts f qs lo x W)(hl:lo'<=lo):RF R rs ts f qs lo' x W:=by
 obtain⟨tq,h1,h2⟩:=h;exact⟨tq,h1,fun q hq b hb=>qal hl (h2 q hq b hb)⟩
theorem RSt.rf {lo:Nat}(h:RSt R rs ts f qs x W):RF R rs ts f qs lo x W:=⟨[],by rw[List.append_nil];exact h,fun q hq=>nomatch hq⟩
theorem RSt.lt (h:RSt R rs ts f qs x W):∀q,q ∈ qs->∀b,q.ownBlock=some b->b<W.heap.size:=fun q hq b hb=>by
 have hR:=h.2.2.2.2.2.2.2.2.1;obtain⟨j,hj⟩:=List.getElem?_of_mem hq;have hl:=(List.getElem?_eq_some_iff.1 hj).1;obtain⟨m,hm⟩:∃m,f.nodes[j]?=some m:=⟨_,List.getElem?_eq_getElem (by rw[<-hR.1];exact hl)⟩;exact((hR.2.2 j m q hm hj).lt b hb).2
theorem DRow.below (h:DRow R rs x W)(hb:Below W.heap.size W W'):DRow R rs x W':=⟨h.1,zab h.2 hb⟩
theorem RSt.rrow (h:RSt R rs ts f qs x W):DRow R rs x W:=⟨h.2.2.2.2.2.1,h.2.2.2.2.2.2.2.2.2.2⟩
theorem RBad.below (h:RBad R rs a dp x W)(hb:Below W.heap.size W W'):RBad R rs a dp x W':=⟨h.1.below hb,h.2.1,h.2.2.1,h.2.2.2.1,h.2.2.2.2.below hb⟩
theorem zwj {T:List Tok}{i j:Nat}(h:T[i]?=some t)(hj:j<7):(zgr T)[i*7+j]?=(rtokC t)[j]?:=zd2 rtokC 7 (fun _=>rfl) T i t j h hj
theorem RFix.tok (h:RFix R x W){tl:List Tok}(hn:R.T.drop n=t::tl):n<R.T.length/\∃b,x.la=some ⟨b,0,none⟩/\(W.cell? ⟨b,n*7,none⟩=some (je jd (kI t.kind))/\W.cell? ⟨b,n*7+1,none⟩=some (je jd (t.at_:Int))/\W.cell? ⟨b,n*7+2,none⟩=some (jh (strOf t.text))/\W.cell? ⟨b,n*7+3,none⟩=some (je jg (setW (inRs t.rs) 0))/\W.cell? ⟨b,n*7+4,none⟩=some (je jg (setW (inRs t.rs) 1))/\W.cell? ⟨b,n*7+5,none⟩=some (je jg (setW (inRs t.rs) 2))/\W.cell? ⟨b,n*7+6,none⟩=some (je jg (setW (inRs t.rs) 3)))/\b<W.heap.size:=by
 have hlt:n<R.T.length:=by
  rcases Nat.lt_or_ge n R.T.length with h|h
  ·exact h
  ·rw[List.drop_eq_nil_of_le h] at hn;cases hn
 have ht:R.T[n]?=some t:=by
  have:(R.T.drop n)[0]?=some t:=by rw[hn];rfl
  rw[List.getElem?_drop] at this;exact this
 obtain⟨h,-⟩:=h;have h':=h;rcases h.2 with⟨e,h0⟩|⟨g,cap,cur,e,-⟩
 ·have:R.T.length=0:=by
   injection e
  omega
 ·injection e with e1 e2 e3
  have hc:∀j,j<7->W.cell? ⟨g,n*7+j,none⟩=(rtokC t)[j]?:=fun j hj=>by
   have hx:=zwj ht hj;cases hv:(rtokC t)[j]? with
   |none=>exact absurd (List.getElem?_eq_none_iff.1 hv) (by show ¬7<=j;omega)
   |some u=>
    rw[hv] at hx;rw[e1] at h';have:=h'.cells rfl (n*7+j) u hx;rw[qce,qbc] at this;exact this
  refine⟨hlt,g,e1,⟨hc 0 ja,hc 1 ja,hc 2 ja,hc 3 ja,hc 4 ja,hc 5 ja,hc 6 ja⟩,?_⟩;rw[e1] at h';exact(h'.lt g rfl).2
end
theorem za9 (R:RC)(x:SV)(w:World)(n:Nat)(t:Tok)(tl:List Tok)(h:RFix R x w)(hi:x.i=n)(hn:R.T.drop n=t::tl):Calls qab 105 #[x.v R] w fun e w'=>e=.returned (je jd (kI t.kind))/\Below w.heap.size w w':=by
 obtain⟨hlt,b,hla,⟨c0,-⟩,hb⟩:=h.tok hn;have hT:=h.2;obtain⟨la,lc,i,ra,rn,rc,na,nn,nc,ca,cn,cc,bad,dp⟩:=x;have hla:la=some ⟨b,0,none⟩:=hla;have hi:i=n:=hi;subst hla hi;unfold SV.v;dsimp only;obtain⟨T,one,L,hL⟩:∃(T:Unit) (one:Bool) (L:Nat),R.T.length=L:=⟨(),R.one,_,rfl⟩;rw[hL] at hlt hT ⊢;have k1:(n:Int)<(L:Int):=U
 obtain⟨kk,hkk⟩:∃y,kI t.kind=y:=⟨_,rfl⟩;rw[hkk] at c0 ⊢;obtain⟨on,hon⟩:∃y,R.one=y:=⟨_,rfl⟩;rw[hon];clear h hn hL hkk hon;go_enter Tryz.func105,Tryz.ntmps105;go_wp2;go_ret;exact⟨rfl,zaa w _⟩
theorem ztc (R:RC)(x:SV)(w:World):Calls qab 106 #[x.v R] w fun e w'=>e=.returned (jk #[({ x with bad:=x.i }:SV).v R,je jd 0])/\Below w.heap.size w w':=by
 obtain⟨la,lc,i,ra,rn,rc,na,nn,nc,ca,cn,cc,bad,dp⟩:=x;unfold SV.v;dsimp only;generalize R.T.length=L;generalize R.one=one;go_enter Tryz.func106,Tryz.ntmps106;go_wp2;refine bodyPost_ret (v:=jk #[.agg #[jf la L lc,je jd i,jf ra rn rc,jf na nn nc,jf ca cn cc,je jd i,ji dp,ji one],je jd 0]) (by simp[results,Tryz.results106,go_sem]) rfl ⟨rfl,?_⟩;exact zbo w _ _
end
section
open Go.RowKit
def RK (lo:Nat)(e:TypeId)(k:Nat)(elem:List Value)(W W':World):Prop:=
 W.heap.size<=W'.heap.size/\∀(b:Nat) (c:Array Value),lo<=b->W.heap[b]?=some (.cells c e (0,0))->∃c':Array Value,W'.heap[b]?=some (.cells c' e (0,0))/\c'.size=c.size/\∀j,j<c.size->c'[j]?=c[j]?∨(k<=j/\k+elem.length<=c.size/\c'[j]?=elem[j-k]?)
section
variable {lo k sz n:Nat} {e:TypeId} {elem xs:List Value} {W W':World} {v:Value}
theorem RK.refl:RK lo e k elem W W:=⟨qac _,fun _ c _ h=>⟨c,h,rfl,fun _ _=>.inl rfl⟩⟩
theorem RK.of_grown (h:W.grownBy W' none):RK lo e k elem W W':=⟨h.size,fun b c _ hb=>⟨c,by rw[h.block b (Array.getElem?_eq_some_iff.1 hb).1 jc];exact hb,rfl,fun _ _=>.inl rfl⟩⟩
theorem RK.row (h:RK lo e k elem W W')(hr:W.ownsRow lo e sz v n xs)(hk:n*sz<=k∨∃cs,xs=cs++elem/\cs.length=k):W'.ownsRow lo e sz v n xs:=by
 rcases hr.2 with hn|⟨g,cap,cur,rfl,hg,hW,hnc,hcm,hcs,ht⟩
 ·exact⟨hr.1,.inl hn⟩
 ·obtain⟨c',h1,h2,h3⟩:=h.2 g cur hg hW
  refine⟨hr.1,.inr ⟨g,cap,c',rfl,hg,h1,hnc,hcm,by rw[h2];exact hcs,?_⟩⟩;have hle:n*sz<=cur.size:=by rw[hcs];exact Nat.mul_le_mul_right _ hnc
  refine List.ext_getElem? fun j=>?_
  rw[qd2,Array.getElem?_toList];by_cases hj:j<n*sz
  ·rw[if_pos hj]
   have hx:xs[j]?=cur[j]?:=by rw[<-ht,qd2,if_pos hj,Array.getElem?_toList]
   rcases h3 j U with h4|⟨h4,h5,h6⟩
   ·rw[h4,hx]
   ·rcases hk with hk|⟨cs,hcs2,hk⟩
    ·omega
    ·rw[h6,hcs2,qbg U,hk]
  ·rw[if_neg hj,List.getElem?_eq_none (by rw[hr.1];omega)]
end
section
variable {P:Program} (w:World) (lo:Nat) (t ty e:TypeId) (i:TypeInfo) (z:Value) (size bytes:Nat) (ht:P.underlying t=some (.slice e)) (hi:P.info? e=some i) (hz:i.zero=some z)
  (hsize:i.size=size) (hby:i.bytes=bytes) (hzs:z.cells.size=size)
include ht hi hz hsize hby hzs
theorem zjf (B:Nat)(hB:w.ownsRow lo e size (jf (some ⟨B,0,none⟩) 0 0) 0 [])(a:Option Addr)(m c:Nat)(news:List Value)(hl:news.length=m*size)(ha:m=0∨∃b off,a=some ⟨b,off,none⟩/\∀j u,news[j]?=some u->w.cell? ⟨b,off+j,none⟩=some u)(h1:∀u ∈ news,u.oneCell'=true)
  (h63:m<=maxLen) (hbytes:m*bytes<=140737488355328) (hbase:lo<=w.heap.size) :
  ∃a' c' w',(Builtin.append_ #[t,t] ty #[jf (some ⟨B,0,none⟩) 0 0,jf a m c]).run P w=.ok (jf a' m c') w'/\w'.ownsRow lo e size (jf a' m c') m news/\w.grownBy w' none:=by
 subst hsize;subst hby;rcases Nat.eq_zero_or_pos m with h0|h0
 ·subst h0
  obtain rfl:news=[]:=List.length_eq_zero_iff.1 (by rw[hl,Nat.zero_mul]);exact⟨_,_,_,zhe w t ty e i ht hi B a c,hB,⟨rfl,rfl,rfl,qac _,fun _ _ _=>rfl⟩⟩
 ·rcases ha with h|⟨b,off,rfl,hc⟩
  ·omega
  have hn:∀j u,news[j]?=some u->w.cell? ((⟨b,off,none⟩:Addr).add j)=some u:=fun j u h=>by rw[qce];exact hc j u h
  have hr:=run_append_grow (P:=P) w t ty e i z ht hi hz ⟨B,0,none⟩ 0 0 [] jc (fun j u h=>by simp at h) ⟨b,off,none⟩ m c news hl hn U (by simp only[maxLen] at h63;omega) (growslice_fits U (by rw[qbc];exact hbytes));rw[qbc] at hr;have hge:=grownCap_ge w m 0 e;have hcm:grownCap w m 0 e<=maxLen:=grownCap_le_maxLen w m 0 e h63;refine⟨_,_,_,hr,⟨hl,.inr ⟨w.heap.size,_,_,rfl,hbase,heap_alloc_new w.drew _,hge,hcm,?_,?_⟩⟩,⟨rfl,rfl,rfl,jc,fun k hk _=>heap_alloc_old w.drew _ hk⟩⟩
  ·simp only[Array.size_append,qct,size_zeroCells,hzs,hl,List.length_nil,qbc,<-Nat.add_mul]
   congr 1;omega
  ·simp only[Array.toList_append,qbi]
   rw[<-hl];exact List.take_left
theorem zhg (a:Option Addr)(n c:Nat)(xs:List Value)(hown:w.ownsRow lo e size (jf a n c) n xs)(E c1:Nat)(elem:List Value)(hE:w.ownsRow lo e size (jf (some ⟨E,0,none⟩) 1 c1) 1 elem)(h1:∀u ∈ elem,u.oneCell'=true)
  (h63:n+1<=maxLen) (hbytes:(n+1)*bytes<=140737488355328) (hbase:lo<=w.heap.size) :
  ∃a' c' w',(Builtin.append_ #[t,t] ty #[jf a n c,jf (some ⟨E,0,none⟩) 1 c1]).run P w=.ok (jf a' (n+1) c') w'/\w'.ownsRow lo e size (jf a' (n+1) c') (n+1) (xs++elem)/\RK lo e (n*size) elem w w'/\Below lo w w':=by
 subst hsize;subst hby;have hl:elem.length=1*i.size:=hE.1;have hlen:(xs++elem).length=(n+1)*i.size:=by rw[qad,hown.1,hl,Nat.add_mul]
 have hnews:∀j u,elem[j]?=some u->w.cell? ((⟨E,0,none⟩:Addr).add j)=some u:=fun j u h=>hE.cells rfl j u h
 have hsmall:n+1<=9223372036854775807:=by simp only[maxLen] at h63;omega
 have grown:∀(old:Nat),old<n+1 ->
   (w.drew.alloc (.cells (xs.toArray++elem.toArray++Builtin.zeroCells z.cells (grownCap w (n+1) old e-(n+1))) e)).ownsRow lo e i.size
    (jf (some ⟨w.heap.size,0,none⟩) (n+1) (grownCap w (n+1) old e)) (n+1) (xs++elem) /\
   w.grownBy (w.drew.alloc (.cells (xs.toArray++elem.toArray++Builtin.zeroCells z.cells (grownCap w (n+1) old e-(n+1))) e)) none:=by
  intro old ho;have hge:=grownCap_ge w (n+1) old e;have hcm:grownCap w (n+1) old e<=maxLen:=grownCap_le_maxLen w (n+1) old e h63;refine⟨⟨hlen,.inr ⟨w.heap.size,_,_,rfl,hbase,heap_alloc_new w.drew _,hge,hcm,?_,?_⟩⟩,⟨rfl,rfl,rfl,jc,fun k hk _=>heap_alloc_old w.drew _ hk⟩⟩
  ·simp only[Array.size_append,qct,size_zeroCells,hzs,hown.1,hl,<-Nat.add_mul]
   congr 1;omega
  ·simp only[Array.toList_append,qao]
   rw[<-qao,<-hlen];exact List.take_left
 rcases hown.2 with⟨hv,rfl⟩|⟨g,cap,cur,hv,hbg,hg,hnc,hcm,hcs,htake⟩
 ·injection hv with e1 _ e3
  subst e1 e3;have hx:xs=[]:=List.eq_nil_of_length_eq_zero (by simpa using hown.1);subst hx;have hr:=run_append_nil (P:=P) w t ty e i z ht hi hz ⟨E,0,none⟩ 1 c1 elem hl hnews U U (by have hb:=hbytes;simp only[qbc] at hb;omega);have hgr:=grown 0 U;simp only[qbc,qbi,Array.empty_append] at hgr ⊢;exact⟨_,_,_,hr,hgr.1,.of_grown hgr.2,(zb1 hgr.2).mono hbase⟩
 ·injection hv with e1 _ e3
  subst e1 e3;by_cases hroom:n+1<=c
  ·have hfit:n*i.size+elem.length<=cur.size:=by rw[hl,hcs,<-Nat.add_mul];exact Nat.mul_le_mul_right _ hroom
   have hr:=run_append_room (P:=P) w t ty e i ht hi g n c cur hg ⟨E,0,none⟩ 1 c1 elem hl hnews h1 hroom hfit;refine⟨_,_,_,hr,⟨hlen,.inr ⟨g,c,_,rfl,hbg,setRow_heap w g cur _ e _ hg,hroom,hcm,?_,?_⟩⟩,⟨by simp[World.setRow],fun b cc hb hcc=>?_⟩,⟨rfl,rfl,rfl,by simp[World.setRow],fun b hb=>setRow_other w g b _ U⟩⟩
   ·simp only[qct,qad,qbn,qa2,qc8]
    omega
   ·rw[htake,<-hlen]
    exact List.take_left
   ·by_cases hbe:b=g
    ·subst hbe
     rw[hg] at hcc;injection hcc with hcc;injection hcc with hcc;subst hcc;refine⟨_,setRow_heap w b cur _ e _ hg,?_,fun j hj=>?_⟩
     ·simp only[qct,qad,qbn,qa2,qc8]
      omega
     ·have hxl:(cur.toList.take (n*i.size)).length=n*i.size:=by rw[qbn,qc8];omega
      rw[List.getElem?_toArray];by_cases hj1:j<n*i.size
      ·left
       rw[qao,qb4 (by rw[hxl];exact hj1),qd2,if_pos hj1,Array.getElem?_toList]
      ·by_cases hj2:j<n*i.size+elem.length
       ·right
        refine⟨U,hfit,?_⟩;rw[qao,qbg (by rw[hxl];omega),hxl,qb4 U]
       ·left
        rw[qbg (by rw[qad,hxl];omega),qad,hxl,List.getElem?_drop,Array.getElem?_toList];congr 1;omega
    ·exact⟨cc,by rw[setRow_other w g b _ hbe];exact hcc,rfl,fun _ _=>.inl rfl⟩
  ·have holds:∀j u,xs[j]?=some u->w.cell? ((⟨g,0,none⟩:Addr).add j)=some u:=hown.cells (g:=g) rfl
   have hr:=run_append_grow (P:=P) w t ty e i z ht hi hz ⟨g,0,none⟩ n c xs hown.1 holds ⟨E,0,none⟩ 1 c1 elem hl hnews U U (growslice_fits U hbytes);have hgr:=grown c U;exact⟨_,_,_,hr,hgr.1,.of_grown hgr.2,(zb1 hgr.2).mono hbase⟩
end
def AppS (n0 lo X:Nat)(st:Value->Array Value)(v0:Value)(e:TypeId)(sz n:Nat)(xs:List Value)(B:World->Prop)(last:Nat)(w:World)(L:Nat->Bool)(W:World):Prop:=
 Below n0 w W/\lo<=W.heap.size/\B W/\(L last=false->Bl W X 167 (st v0))/\(L last=true->∃a c,Bl W X 167 (st (jf a n c))/\W.ownsRow lo e sz (jf a n c) n xs)
theorem AppS.next {lo:Nat}{st:Value->Array Value}{v0:Value}{sz:Nat}{B:World->Prop}{last:Nat}{L:Nat->Bool}{W W':World}(h:AppS n0 lo X st v0 e sz n xs B last w L W)(i:Nat)(hi:i≠last)(hl:L last=false)(hb:Below lo W W')(hn:n0<=lo)(hX:X<lo)(hB:∀W W',Below lo W W'->B W->B W'):AppS n0 lo X st v0 e sz n xs B last w (fun k=>if k=i then true else L k) W':=by
 obtain⟨h1,h2,h3,h4,h5⟩:=h;refine⟨h1.trans (hb.mono hn),qal h2 hb.size,hB _ _ hb h3,fun _=>?_,fun h=>?_⟩
 ·have:=h4 hl
  unfold Bl at this ⊢;rw[hb.block X hX];exact this
 ·dsimp only at h
  rw[if_neg (Ne.symm hi),hl] at h;cases h
theorem AppS.same {lo:Nat}{st:Value->Array Value}{v0:Value}{sz:Nat}{B:World->Prop}{last:Nat}{L:Nat->Bool}(h:AppS n0 lo X st v0 e sz n xs B last w L W)(i:Nat)(hi:i≠last):AppS n0 lo X st v0 e sz n xs B last w (fun k=>if k=i then true else L k) W:=by
 obtain⟨h1,h2,h3,h4,h5⟩:=h;have e:(if last=i then true else L last)=L last:=if_neg (Ne.symm hi);exact⟨h1,h2,h3,fun h=>h4 (e.symm.trans h),fun h=>h5 (e.symm.trans h)⟩
theorem RK.low {lo k o:Nat}{elem:List Value}(hX:X<lo)(u:Value):RK lo e k elem W (W.setCell ⟨X,o,none⟩ u):=
 ⟨jc,fun b c hb h=>⟨c,by rw[heap_setCell_other _ _ _ _ (by show b≠X;omega)];exact h,rfl,fun _ _=>.inl rfl⟩⟩
theorem zay {t:TypeId}{o0 o1 o2 o3 o4 o5 o6 o7:Value}(h:Bl W b t #[o0,o1,o2,o3,o4,o5,o6,o7])(v0 v1 v2 v3 v4 v5 v6 v7:Value) :
  Bl ((((((((W.setCell ⟨b,0,none⟩ v0).setCell ⟨b,1,none⟩ v1).setCell ⟨b,2,none⟩ v2).setCell ⟨b,3,none⟩ v3).setCell ⟨b,4,none⟩ v4).setCell ⟨b,5,none⟩ v5).setCell ⟨b,6,none⟩ v6).setCell ⟨b,7,none⟩ v7) b t #[v0,v1,v2,v3,v4,v5,v6,v7]:=by
 have q0:Bl (W.setCell ⟨b,0,none⟩ v0) b t #[v0,o1,o2,o3,o4,o5,o6,o7]:=qcc h v0;have q1:Bl _ b t #[v0,v1,o2,o3,o4,o5,o6,o7]:=qcc (i:=1) q0 v1;have q2:Bl _ b t #[v0,v1,v2,o3,o4,o5,o6,o7]:=qcc (i:=2) q1 v2;have q3:Bl _ b t #[v0,v1,v2,v3,o4,o5,o6,o7]:=qcc (i:=3) q2 v3;have q4:Bl _ b t #[v0,v1,v2,v3,v4,o5,o6,o7]:=qcc (i:=4) q3 v4;have q5:Bl _ b t #[v0,v1,v2,v3,v4,v5,o6,o7]:=qcc (i:=5) q4 v5;have q6:Bl _ b t #[v0,v1,v2,v3,v4,v5,v6,o7]:=qcc (i:=6) q5 v6;exact(qcc (i:=7) q6 v7:Bl _ b t #[v0,v1,v2,v3,v4,v5,v6,v7])
theorem zad {t:TypeId}{o0 o1 o2 o3 o4 o5 o6 o7:Value}(h:Bl W b t #[o0,o1,o2,o3,o4,o5,o6,o7]) :
  (W.cell? ⟨b,0,none⟩=some o0/\W.cell? ⟨b,1,none⟩=some o1/\W.cell? ⟨b,2,none⟩=some o2/\W.cell? ⟨b,3,none⟩=some o3/\W.cell? ⟨b,4,none⟩=some o4/\W.cell? ⟨b,5,none⟩=some o5/\W.cell? ⟨b,6,none⟩=some o6/\W.cell? ⟨b,7,none⟩=some o7)/\(∀o,W.frozen? ⟨b,o,none⟩=false)/\b<W.heap.size:=
 ⟨⟨h.cell rfl,h.cell rfl,h.cell rfl,h.cell rfl,h.cell rfl,h.cell rfl,h.cell rfl,h.cell rfl⟩,h.free,h.lt⟩
theorem zbh (h:Below n w W)(hb:n<=b)(v0 v1 v2 v3 v4 v5 v6 v7:Value) :
  Below n w ((((((((W.setCell ⟨b,0,none⟩ v0).setCell ⟨b,1,none⟩ v1).setCell ⟨b,2,none⟩ v2).setCell ⟨b,3,none⟩ v3).setCell ⟨b,4,none⟩ v4).setCell ⟨b,5,none⟩ v5).setCell ⟨b,6,none⟩ v6).setCell ⟨b,7,none⟩ v7):=
 (((((((h.setCell (p:=⟨b,0,none⟩) hb v0).setCell (p:=⟨b,1,none⟩) hb v1).setCell (p:=⟨b,2,none⟩) hb v2).setCell (p:=⟨b,3,none⟩) hb v3).setCell (p:=⟨b,4,none⟩) hb v4).setCell (p:=⟨b,5,none⟩) hb v5).setCell (p:=⟨b,6,none⟩) hb v6).setCell (p:=⟨b,7,none⟩) hb v7
theorem zrp {base:Nat}{size g:Nat}{v:Value}(h:W.ownsRow base e size v n xs)(hg:g<base)(v0 v1 v2 v3 v4 v5 v6 v7:Value) :
  ((((((((W.setCell ⟨g,0,none⟩ v0).setCell ⟨g,1,none⟩ v1).setCell ⟨g,2,none⟩ v2).setCell ⟨g,3,none⟩ v3).setCell ⟨g,4,none⟩ v4).setCell ⟨g,5,none⟩ v5).setCell ⟨g,6,none⟩ v6).setCell ⟨g,7,none⟩ v7).ownsRow base e size v n xs:=
 zaw (zaw (zaw (zaw (zaw (zaw (zaw (zaw h hg _ _) hg _ _) hg _ _) hg _ _) hg _ _) hg _ _) hg _ _) hg _ _
end
section
open Go.RowKit
theorem zz2 {m:Nat}{a:Option Addr}{news:List Value}(h:m=0∨∃b off,a=some ⟨b,off,none⟩/\∀j u,news[j]?=some u->w.cell? ⟨b,off+j,none⟩=some u)(hn:n0=w.heap.size)(hb:Below n0 w W):m=0∨∃b off,a=some ⟨b,off,none⟩/\∀j u,news[j]?=some u->W.cell? ⟨b,off+j,none⟩=some u:=by
 subst hn;rcases h with h|⟨b,off,rfl,h⟩
 ·exact .inl h
 ·exact .inr ⟨b,off,rfl,fun j u hu=>by
   have:=h j u hu;rw[(bcell hb).1 _ _ (zai this)];exact this⟩
theorem oneS {c0 c1 c2 c3 c4 c5 c6:Value}{wr:World}(hX:Bl wr X 54 #[c0,c1,c2,c3,c4,c5,c6])(hn:n0=wr.heap.size)(hb:Below n0 wr W) :
  W.cell? ⟨X,0,none⟩=some c0/\W.cell? ⟨X,1,none⟩=some c1/\W.cell? ⟨X,2,none⟩=some c2/\W.cell? ⟨X,3,none⟩=some c3/\W.cell? ⟨X,4,none⟩=some c4/\W.cell? ⟨X,5,none⟩=some c5/\W.cell? ⟨X,6,none⟩=some c6:=by
 subst hn;have h:=hX.below hb;exact⟨h.cell rfl,h.cell rfl,h.cell rfl,h.cell rfl,h.cell rfl,h.cell rfl,h.cell rfl⟩
def zeroV:Array Value:=#[jf none 0 0,je jd 0,jf none 0 0,jf none 0 0,jf none 0 0,je jd 0,ji false,ji false]
theorem Bl.keep {lo:Nat}{t:TypeId}(h:Bl w b t cs)(hb:Below lo w w')(hl:b<lo):Bl w' b t cs:=by
 unfold Bl at h ⊢;rw[hb.block b hl];exact h
section
variable (lo X:Nat) (v0 ev:Value) (n:Nat) (cs elem:List Value)
def AddT:Nat->Value->World->Prop
 |0,v,W=>∃B,v=jf (some ⟨B,0,none⟩) 0 0/\W.ownsRow lo 54 7 v 0 []
 |1,v,_=>v=jj (some ⟨X,2,none⟩)
 |2,v,_=>v=jj (some ⟨X,3,none⟩)
 |3,v,_=>v=v0
 |4,v,W=>∃a c,v=jf a n c/\W.ownsRow lo 54 7 v n cs
 |5,v,_=>v=ev
 |6,v,W=>∃E,v=jf (some ⟨E,0,none⟩) 1 1/\W.ownsRow lo 54 7 v 1 elem
 |7,v,W=>∃a c,v=jf a (n+1) c/\W.ownsRow lo 54 7 v (n+1) (cs++elem)
 |8,v,_=>v=jj (some ⟨X,2,none⟩)
 |9,v,_=>v=jj (some ⟨X,3,none⟩)
 |_,_,_=>True
theorem zwk (hcs:cs.length=n*7)(_he:elem.length=7)(k:Nat)(v:Value)(w w':World)(h:RK lo 54 (n*7) elem w w')(hT:AddT lo X v0 ev n cs elem k v w):AddT lo X v0 ev n cs elem k v w':=by
 match k,hT with
 |0,⟨B,e,hT⟩=>exact⟨B,e,h.row hT (.inl U)⟩
 |1,hT=>exact hT
 |2,hT=>exact hT
 |3,hT=>exact hT
 |4,⟨a,c,e,hT⟩=>exact⟨a,c,e,h.row hT (.inl (qac _))⟩
 |5,hT=>exact hT
 |6,⟨E,e,hT⟩=>
  refine⟨E,e,h.row hT ?_⟩;rcases Nat.eq_zero_or_pos n with h0|h0
  ·exact .inr ⟨[],rfl,by subst h0;rfl⟩
  ·exact .inl U
 |7,⟨a,c,e,hT⟩=>exact⟨a,c,e,h.row hT (.inr ⟨cs,rfl,hcs⟩)⟩
 |8,hT=>exact hT
 |9,hT=>exact hT
 |k+10,_=>trivial
end
theorem zz3 (R:RC)(x:SV)(w:World)(cs:List Value)(nd:PN)(ka:Option Addr)(kn kc:Nat)(hO:w.ownsRow R.base 54 7 (jf x.na x.nn x.nc) x.nn cs)(hc1:∀u ∈ cs,u.oneCell'=true)(hm:x.nn<=100000000) :
  Calls qab 152 #[x.v R,ndV nd (jf ka kn kc)] w fun e w'=>∃na' nc',e=.returned (jk #[({ x with na:=na',nn:=x.nn+1,nc:=nc' }:SV).v R,je jd (x.nn:Int)])/\w'.ownsRow w.heap.size 54 7 (jf na' (x.nn+1) nc') (x.nn+1) (cs++nodeC (nd,jf ka kn kc))/\Below w.heap.size w w':=by
 obtain⟨la,lc,i,ra,rn,rc,na,nn,nc,ca,cn,cc,bad,dp⟩:=x;unfold SV.v;dsimp only at hO hm ⊢;generalize R.T.length=L;generalize R.one=one;have hnv:ndV nd (jf ka kn kc)=.agg #[je jd nd.op,jf ka kn kc,je jd nd.rule,je jg nd.s0,je jg nd.s1,je jg nd.s2,je jg nd.s3]:=rfl;have hnc:nodeC (nd,jf ka kn kc)=[je jd nd.op,jf ka kn kc,je jd nd.rule,je jg nd.s0,je jg nd.s1,je jg nd.s2,je jg nd.s3]:=rfl;rw[hnv,hnc];obtain⟨op,hop⟩:∃y,nd.op=y:=⟨_,rfl⟩;obtain⟨ru,hru⟩:∃y,nd.rule=y:=⟨_,rfl⟩;obtain⟨s0,hs0⟩:∃y,nd.s0=y:=⟨_,rfl⟩;obtain⟨s1,hs1⟩:∃y,nd.s1=y:=⟨_,rfl⟩;obtain⟨s2,hs2⟩:∃y,nd.s2=y:=⟨_,rfl⟩;obtain⟨s3,hs3⟩:∃y,nd.s3=y:=⟨_,rfl⟩;rw[hop,hru,hs0,hs1,hs2,hs3];clear hnv hnc hop hru hs0 hs1 hs2 hs3;have hsrc:=(CellsAt.of_own hO).src;have hln:=hO.1;obtain⟨ie,hie,hze0,hze1,hze2⟩:=info_parts zik;obtain⟨W0,hW0⟩:∃W0,((w.alloc (.cells #[jf la L lc,je jd i,jf ra rn rc,jf na nn nc,jf ca cn cc,je jd bad,ji dp,ji one] 167)).alloc (.cells #[je jd op,jf ka kn kc,je jd ru,je jg s0,je jg s1,je jg s2,je jg s3] 54)).alloc (.cells zeroV 167)=W0:=⟨_,rfl⟩;have hn0:W0.heap.size=w.heap.size+3:=by rw[<-hW0];simp
 have hb0:Below w.heap.size w W0:=by rw[<-hW0];exact zac (zac (zac (qaf _ _) rfl _) rfl _) rfl _
 have hX:Bl W0 w.heap.size 167 #[jf la L lc,je jd i,jf ra rn rc,jf na nn nc,jf ca cn cc,je jd bad,ji dp,ji one]:=by rw[<-hW0];repeat (first|(refine Bl.new' ?_;simp;done)|refine Bl.past ?_)
 have hY:Bl W0 (w.heap.size+1) 54 #[je jd op,jf ka kn kc,je jd ru,je jg s0,je jg s1,je jg s2,je jg s3]:=by rw[<-hW0];repeat (first|(refine Bl.new' ?_;simp;done)|refine Bl.past ?_)
 have hZ:Bl W0 (w.heap.size+2) 167 zeroV:=by rw[<-hW0];repeat (first|(refine Bl.new' ?_;simp;done)|refine Bl.past ?_)
 have hln:=hln;obtain⟨lo,hlo⟩:∃lo,W0.heap.size=lo:=⟨_,rfl⟩;have hX3:w.heap.size<lo:=U
 have hY3:w.heap.size+1<lo:=U
 have hZ3:w.heap.size+2<lo:=U
 have HB0:=qaa hb0;have HW0:=qaa hW0;clear hW0;go_enter Tryz.func152,Tryz.ntmps152
 go_wp2_with fail
 unfold zeroV at HW0;rw[HW0.out];obtain⟨st,hst⟩:∃st:Value->Array Value,st=fun v=>#[jf la L lc,je jd i,jf ra rn rc,v,jf ca cn cc,je jd bad,ji dp,ji one]:=⟨_,rfl⟩
 obtain⟨elem,hel⟩:∃l:List Value,l=[je jd op,jf ka kn kc,je jd ru,je jg s0,je jg s1,je jg s2,je jg s3]:=⟨_,rfl⟩;have hell:elem.length=7:=by rw[hel];rfl
 have hBk:∀W W',Below lo W W'->(Bl W (w.heap.size+1) 54 elem.toArray/\Bl W (w.heap.size+2) 167 zeroV)->(Bl W' (w.heap.size+1) 54 elem.toArray/\Bl W' (w.heap.size+2) 167 zeroV):=fun W W' hb h=>⟨h.1.keep hb hY3,h.2.keep hb hZ3⟩
 have hn0:w.heap.size<=lo:=U
 refine ze0 jb [2,3] (AddT lo w.heap.size (jf na nn nc) (.agg #[je jd op,jf ka kn kc,je jd ru,je jg s0,je jg s1,je jg s2,je jg s3]) nn cs elem) (RK lo 54 (nn*7) elem) (AppS w.heap.size lo w.heap.size st (jf na nn nc) 54 7 (nn+1) (cs++elem) (fun W=>Bl W (w.heap.size+1) 54 elem.toArray/\Bl W (w.heap.size+2) 167 zeroV) 10 w) jb jb jb jb (zwk _ _ _ _ _ _ _ hln hell) ?start ?steps ?done
 case start=>
  refine⟨HB0.out.trans (zcz W0 |>.mono U),by show lo<=W0.heap.size;omega,⟨by rw[hel];exact hY.drew,hZ.drew⟩,fun _=>by rw[hst];exact hX.drew,fun h=>by cases h⟩
 case steps=>
  refine⟨?_,?_,?_,?_,?_,?_,?_,?_,?_,?_,?_,trivial⟩
  ·intro L a W hL hj hS hk hd
   have e10:L 10=false:=hj 10 jb;clear hk hd hj;refine zao rfl ?_;have hb:=(zaa W (.cells #[] 54)).mono hS.2.1;exact zec (jf (some ⟨W.heap.size,0,none⟩) 0 0) (w':=W.alloc (.cells #[] 54)) (by generalize a.eval=ρ at *;simp[go_sem]) ⟨W.heap.size,rfl,⟨rfl,.inr ⟨W.heap.size,0,#[],rfl,hS.2.1,heap_alloc_new W _,qac _,Nat.zero_le _,rfl,rfl⟩⟩⟩ (.of_grown (qdu W _ _)) (hS.next 0 ja e10 hb hn0 hX3 hBk)
  ·intro L a W hL hj hS hk hd
   have p1:a.eval (.tmp 2)=jj (some ⟨w.heap.size,0,none⟩):=hk 2 jc;clear hk hd hj;refine zao rfl ?_;exact zba (jj (some ⟨w.heap.size,2,none⟩)) (by generalize a.eval=ρ at *;simp[go_sem,p1]) rfl .refl (hS.same 1 ja)
  ·intro L a W hL hj hS hk hd
   have p1:a.eval (.tmp 7)=jj (some ⟨w.heap.size,2,none⟩):=hd 1 7 jb;clear hk hd hj;refine zao rfl ?_;exact zba (jj (some ⟨w.heap.size,3,none⟩)) (by generalize a.eval=ρ at *;simp[go_sem,p1]) rfl .refl (hS.same 2 ja)
  ·intro L a W hL hj hS hk hd
   have e10:L 10=false:=hj 10 jb;have p1:a.eval (.tmp 8)=jj (some ⟨w.heap.size,3,none⟩):=hd 2 8 jb;have c0:W.cell? ⟨w.heap.size,3,none⟩=some (jf na nn nc):=by
    have:=hS.2.2.2.1 e10;rw[hst] at this;exact this.cell rfl
   clear hk hd hj;refine zao rfl ?_;exact zba (jf na nn nc) (by generalize a.eval=ρ at *;simp[go_sem,p1,c0]) rfl .refl (hS.same 3 ja)
  ·intro L a W hL hj hS hk hd
   have e10:L 10=false:=hj 10 jb;obtain⟨B,p1,hB⟩:=hd 0 6 jb;have p2:a.eval (.tmp 9)=jf na nn nc:=hd 3 9 jb;rw[p1] at hB;clear hk hd hj;refine zao rfl ?_;obtain⟨a',c',w',hr,h1,h2⟩:=zjf (P:=qab) W lo 23 23 54 ie _ 7 72 qdq hie hze0 hze1 hze2 rfl B hB na nn nc cs hln (zz2 hsrc rfl hS.1) hc1 (by unfold maxLen;omega) U hS.2.1;exact zeb (.tmp 6) (.tmp 9) 23 rfl p1 p2 hr ⟨a',c',rfl,h1⟩ (.of_grown h2) (hS.next 4 ja e10 ((zb1 h2).mono hS.2.1) hn0 hX3 hBk)
  ·intro L a W hL hj hS hk hd
   have p1:a.eval (.tmp 3)=jj (some ⟨w.heap.size+1,0,none⟩):=hk 3 jc;have hYW:=hS.2.2.1.1;rw[hel] at hYW;obtain⟨y0,y1,y2,y3,y4,y5,y6⟩:=oneS hYW rfl (qaf _ _);clear hk hd hj;refine zao rfl ?_;exact zba (.agg #[je jd op,jf ka kn kc,je jd ru,je jg s0,je jg s1,je jg s2,je jg s3]) (by generalize a.eval=ρ at *;simp[go_sem,p1,y0,y1,y2,y3,y4,y5,y6]) rfl .refl (hS.same 5 ja)
  ·intro L a W hL hj hS hk hd
   have e10:L 10=false:=hj 10 jb;have p1:a.eval (.tmp 11)=.agg #[je jd op,jf ka kn kc,je jd ru,je jg s0,je jg s1,je jg s2,je jg s3]:=hd 5 11 jb;clear hk hd hj;refine zao rfl ?_;have hb:=(zaa W (.cells #[je jd op,jf ka kn kc,je jd ru,je jg s0,je jg s1,je jg s2,je jg s3] 54)).mono hS.2.1;exact zec (jf (some ⟨W.heap.size,0,none⟩) 1 1) (w':=W.alloc (.cells #[je jd op,jf ka kn kc,je jd ru,je jg s0,je jg s1,je jg s2,je jg s3] 54)) (by generalize a.eval=ρ at *;simp[go_sem,p1]) ⟨W.heap.size,rfl,⟨hell,.inr ⟨W.heap.size,1,_,rfl,hS.2.1,heap_alloc_new W _,qac _,by unfold maxLen;omega,rfl,by rw[hel];rfl⟩⟩⟩ (.of_grown (qdu W _ _)) (hS.next 6 ja e10 hb hn0 hX3 hBk)
  ·intro L a W hL hj hS hk hd
   have e10:L 10=false:=hj 10 jb;obtain⟨a4,c4,p1,h4⟩:=hd 4 10 jb;obtain⟨E,p2,hE⟩:=hd 6 12 jb;rw[p1] at h4;rw[p2] at hE;clear hk hd hj;refine zao rfl ?_;obtain⟨a',c',w',hr,h1,h2,h3⟩:=zhg (P:=qab) W lo 23 23 54 ie _ 7 72 qdq hie hze0 hze1 hze2 rfl a4 nn c4 cs h4 E 1 elem hE (by rw[hel];simp[Value.oneCell']) (by unfold maxLen;omega) U hS.2.1;exact zeb (.tmp 10) (.tmp 12) 23 rfl p1 p2 hr ⟨a',c',rfl,h1⟩ h2 (hS.next 7 ja e10 h3 hn0 hX3 hBk)
  ·intro L a W hL hj hS hk hd
   have p1:a.eval (.tmp 2)=jj (some ⟨w.heap.size,0,none⟩):=hk 2 jc;clear hk hd hj;refine zao rfl ?_;exact zba (jj (some ⟨w.heap.size,2,none⟩)) (by generalize a.eval=ρ at *;simp[go_sem,p1]) rfl .refl (hS.same 8 ja)
  ·intro L a W hL hj hS hk hd
   have p1:a.eval (.tmp 14)=jj (some ⟨w.heap.size,2,none⟩):=hd 8 14 jb;clear hk hd hj;refine zao rfl ?_;exact zba (jj (some ⟨w.heap.size,3,none⟩)) (by generalize a.eval=ρ at *;simp[go_sem,p1]) rfl .refl (hS.same 9 ja)
  ·intro L a W hL hj hS hk hd
   have p1:a.eval (.tmp 15)=jj (some ⟨w.heap.size,3,none⟩):=hd 9 15 jb;obtain⟨a7,c7,p2,h7⟩:=hd 7 13 jb;rw[p2] at h7;clear hk hd hj;refine zao rfl ?_;have hXW:=hS.2.2.2.1 hL;have hX5:=hXW.put (i:=3) (jf a7 (nn+1) c7);have hrow:(W.setCell ⟨w.heap.size,3,none⟩ (jf a7 (nn+1) c7)).ownsRow lo 54 7 (jf a7 (nn+1) c7) (nn+1) (cs++elem):=zaw h7 hX3 _ _;have hbk2:Bl (W.setCell ⟨w.heap.size,3,none⟩ (jf a7 (nn+1) c7)) (w.heap.size+1) 54 elem.toArray/\Bl (W.setCell ⟨w.heap.size,3,none⟩ (jf a7 (nn+1) c7)) (w.heap.size+2) 167 zeroV:=⟨hS.2.2.1.1.other U _,hS.2.2.1.2.other U _⟩;refine zoz (w':=W.setCell ⟨w.heap.size,3,none⟩ (jf a7 (nn+1) c7)) ?_ trivial (.low hX3 _) ⟨hS.1.setCell (p:=⟨w.heap.size,3,none⟩) (qac _) _,by simpa using hS.2.1,hbk2,fun h=>by simp at h,fun _=>⟨a7,c7,?_,hrow⟩⟩
   ·rw[hst] at hXW
    have c3:W.cell? ⟨w.heap.size,3,none⟩=some (jf na nn nc):=hXW.cell rfl;have cf:=hXW.free;clear hS hX5 hrow hbk2;generalize a.eval=ρ at *;simp[go_sem,p1,p2,c3,cf]
   ·rw[hst] at hX5 ⊢
    exact hX5
 case done=>
  intro vals w3 hv hS;obtain⟨L2,hL2,hS⟩:=hS;obtain⟨a7,c7,hX7,h7⟩:=hS.2.2.2.2 (hL2 10 jc);rw[hst] at hX7;have hb3:=hS.1;have hZ7:=hS.2.2.1.2;clear hS hv;have x0:w3.cell? ⟨w.heap.size,0,none⟩=some (jf la L lc):=hX7.cell rfl;have x1:w3.cell? ⟨w.heap.size,1,none⟩=some (je jd i):=hX7.cell rfl;have x2:w3.cell? ⟨w.heap.size,2,none⟩=some (jf ra rn rc):=hX7.cell rfl;have x3:w3.cell? ⟨w.heap.size,3,none⟩=some (jf a7 (nn+1) c7):=hX7.cell rfl;have x4:w3.cell? ⟨w.heap.size,4,none⟩=some (jf ca cn cc):=hX7.cell rfl;have x5:w3.cell? ⟨w.heap.size,5,none⟩=some (je jd bad):=hX7.cell rfl;have x6:w3.cell? ⟨w.heap.size,6,none⟩=some (ji dp):=hX7.cell rfl;have x7:w3.cell? ⟨w.heap.size,7,none⟩=some (ji one):=hX7.cell rfl;unfold zeroV at hZ7;have z0:w3.cell? ⟨w.heap.size+2,0,none⟩=some (jf none 0 0):=hZ7.cell rfl;have z1:w3.cell? ⟨w.heap.size+2,1,none⟩=some (je jd 0):=hZ7.cell rfl;have z2:w3.cell? ⟨w.heap.size+2,2,none⟩=some (jf none 0 0):=hZ7.cell rfl;have z3:w3.cell? ⟨w.heap.size+2,3,none⟩=some (jf none 0 0):=hZ7.cell rfl;have z4:w3.cell? ⟨w.heap.size+2,4,none⟩=some (jf none 0 0):=hZ7.cell rfl;have z5:w3.cell? ⟨w.heap.size+2,5,none⟩=some (je jd 0):=hZ7.cell rfl;have z6:w3.cell? ⟨w.heap.size+2,6,none⟩=some (ji false):=hZ7.cell rfl;have z7:w3.cell? ⟨w.heap.size+2,7,none⟩=some (ji false):=hZ7.cell rfl;have zf:=hZ7.free;have v1:IntKind.i64.wrap (((nn+1:Nat):Int)-1)=(nn:Int):=by rw[show((nn+1:Nat):Int)-1=(nn:Int) by omega];exact qaq _ U
  have v2:IntKind.i64.wrap ((nn:Int)+1-1)=(nn:Int):=by rw[show(nn:Int)+1-1=(nn:Int) by omega];exact qaq _ U
  have HX7:=qaa hX7;have HZ7:=qaa hZ7;have HB3:=qaa hb3;have H7:=qaa h7;have HEL:=qaa hel;clear hX7 hZ7 hb3 h7 hL2 hBk hst hel hX hY hZ hO hsrc hln hc1;simp only[fill,if_true,Act.put,List.setIfInBounds_toArray,List.set_cons_zero,List.set_cons_succ,qbc,Nat.reduceAdd];obtain⟨Z,hZe⟩:∃Z,w.heap.size+2=Z:=⟨_,rfl⟩;have hZe2:w.heap.size+1+1=Z:=hZe;have hZn:w.heap.size<=Z:=U
  have hZX:¬w.heap.size=Z:=U
  rw[hZe] at z0 z1 z2 z3 z4 z5 z6 z7 hZ3 HZ7;simp only[hZe] at zf;rw[hZe2];clear hZe hZe2;go_wp2;have hZZ:w.heap.size<w3.heap.size:=HX7.out.lt;have hZZ2:Z<w3.heap.size:=HZ7.out.lt;have v3:IntKind.i64.wrap (nn:Int)=(nn:Int):=qaq _ U
  go_region_with fail
  all_goals
   go_wp2;clear x0 x1 x2 x3 x4 x5 x6 x7 z0 z1 z2 z3 z4 z5 z6 z7 zf;have hS8:=zay HZ7.out (jf la L lc) (je jd i) (jf ra rn rc) (jf a7 (nn+1) c7) (jf ca cn cc) (je jd bad) (ji dp) (ji one);obtain⟨⟨c0,c1,c2,c3,c4,c5,c6,c7'⟩,-,-⟩:=zad hS8;refine bodyPost_ret (v:=jk #[.agg #[jf la L lc,je jd i,jf ra rn rc,jf a7 (nn+1) c7,jf ca cn cc,je jd bad,ji dp,ji one],je jd (nn:Int)]) (by simp[results,Tryz.results152,go_sem,c0,c1,c2,c3,c4,c5,c6,c7']) rfl ?_;refine⟨a7,c7,rfl,?_,?_⟩
   ·have h8:=H7.out
    rw[HEL.out] at h8;refine za2 (base:=lo) ?_ hn0
    first
     |(with_reducible exact zrp h8 hZ3 _ _ _ _ _ _ _ _)
     |(with_reducible refine zab ?_ (zcz _));(with_reducible exact zrp h8 hZ3 _ _ _ _ _ _ _ _)
   ·first
     |(with_reducible exact zbh HB3.out hZn _ _ _ _ _ _ _ _)
     |(with_reducible refine Below.drew ?_);(with_reducible exact zbh HB3.out hZn _ _ _ _ _ _ _ _)
end
section
open Go.RowKit
section
variable {R:RC} {rs:List (List Nat × Nat × Int)} {ts a:List Tok} {f g:MF} {x:SV} {w W W':World} {dp:Bool} {o:PO} {e:Ending}
theorem zp0 {ns:List PN}{qs:List Value}{base:Nat}{v:Value}(h:NRow base v ns qs W):∀u ∈ zbs (ns.zip qs),u.oneCell'=true:=
 ztb fun i n q a b=>(zag (h.2.2 i n q a b)).elim fun a h=>h.elim fun c h=>⟨a,_,c,h⟩
theorem zf3 (h:RSt R rs ts f qs x W)(nd:PN)(ka:Option Addr)(kc:Nat)(hk:W.ownsRow R.base 3 1 (jf ka nd.kids.length kc) nd.kids.length (intsV nd.kids))(hm:f.nodes.length<=100000000)(hbase:R.base<=W.heap.size) :
  Calls qab 152 #[x.v R,ndV nd (jf ka nd.kids.length kc)] W fun e w'=>Below W.heap.size W w'/\∃x':SV,e=.returned (jk #[x'.v R,je jd (lastI (addN f nd))])/\RSt R rs ts (addN f nd) (qs++[jf ka nd.kids.length kc]) x' w':=by
 obtain⟨h1,h2,h3,h4,h5,h6,h7,h8,h9,h10,h11⟩:=h;have hO:=h9.2.1;rw[<-h7] at hO;refine(zz3 R x W (zbs (f.nodes.zip qs)) nd ka nd.kids.length kc hO (zp0 h9) U).mono ?_;rintro e w' ⟨na',nc',rfl,ho,hb⟩;refine⟨hb,{ x with na:=na',nn:=x.nn+1,nc:=nc' },?_,h1.below hb,h2,h3,h4,h5,h6,?_,h8,?_,zab h10 hb,zab h11 hb⟩
 ·have e1:lastI (addN f nd)=(x.nn:Int):=by
   show(((f.nodes++[nd]).length:Nat):Int)-1=_;rw[qad,qai,h7];omega
  rw[e1]
 ·show x.nn+1=(f.nodes++[nd]).length
  rw[qad,qai,h7]
 ·rw[h7] at ho ⊢
  exact h9.snoc hk (za2 ho hbase) (fun sz n u xs hu=>zab hu hb)
end
def RRes (R:RC)(k:Int)(Q:SV->World->Prop)(w:World)(e:Ending)(w':World):Prop:=
 ∃(la:Option Addr) (lc:Nat) (i:Int) (ra:Option Addr) (rn rc:Nat) (na:Option Addr) (nn nc:Nat) (ca:Option Addr) (cn cc:Nat) (bad:Int) (dp:Bool),
  e=.returned (jk #[.agg #[jf la R.T.length lc,je jd i,jf ra rn rc,jf na nn nc,jf ca cn cc,je jd bad,ji dp,ji R.one],je jd k])/\Below w.heap.size w w'/\Q ⟨la,lc,i,ra,rn,rc,na,nn,nc,ca,cn,cc,bad,dp⟩ w'
theorem RRes.of {R:RC}{k:Int}{Q:SV->World->Prop}{e:Ending}(hb:Below w.heap.size w w')(h:∃x:SV,e=.returned (jk #[x.v R,je jd k])/\Q x w'):RRes R k Q w e w':=by
 obtain⟨⟨la,lc,i,ra,rn,rc,na,nn,nc,ca,cn,cc,bad,dp⟩,rfl,h⟩:=h;exact⟨la,lc,i,ra,rn,rc,na,nn,nc,ca,cn,cc,bad,dp,rfl,hb,h⟩
theorem RRes.mono {R:RC}{k:Int}{Q Q':SV->World->Prop}{e:Ending}(h:RRes R k Q w e w')(hq:∀x W,Q x W->Q' x W):RRes R k Q' w e w':=by
 obtain⟨la,lc,i,ra,rn,rc,na,nn,nc,ca,cn,cc,bad,dp,h1,h2,h3⟩:=h;exact⟨la,lc,i,ra,rn,rc,na,nn,nc,ca,cn,cc,bad,dp,h1,h2,hq _ _ h3⟩
theorem RSt.low {R:RC}{x:SV}(h:RSt R rs ts f qs x W)(hB:Bl W b 167 cs)(o:Nat)(u:Value):RSt R rs ts f qs x (W.setCell ⟨b,o,none⟩ u):=by
 obtain⟨h1,h2,h3,h4,h5,h6,h7,h8,h9,h10,h11⟩:=h;have st:∀ {base:Nat} {t:TypeId} {sz n:Nat} {v:Value} {xs:List Value},W.ownsRow base t sz v n xs->t≠167->(W.setCell ⟨b,o,none⟩ u).ownsRow base t sz v n xs:=fun h ht=>ownsRow_setCell_other h (a:=⟨b,o,none⟩) (zaq h hB ht) u
 exact⟨⟨st h1.1 ja,h1.2⟩,h2,h3,h4,h5,h6,h7,h8,⟨h9.1,st h9.2.1 ja,fun j n q e1 e2=>st (h9.2.2 j n q e1 e2) ja⟩,st h10 ja,st h11 ja⟩
theorem RF.low {R:RC}{lo:Nat}{x:SV}(h:RF R rs ts f qs lo x W)(hB:Bl W b 167 cs)(o:Nat)(u:Value):RF R rs ts f qs lo x (W.setCell ⟨b,o,none⟩ u):=by
 obtain⟨tq,h1,h2⟩:=h;exact⟨tq,h1.low hB o u,h2⟩
theorem RF.low8 {R:RC}{lo:Nat}{x:SV}(h:RF R rs ts f qs lo x W)(hB:Bl W b 167 cs)(v0 v1 v2 v3 v4 v5 v6 v7:Value) :
  RF R rs ts f qs lo x ((((((((W.setCell ⟨b,0,none⟩ v0).setCell ⟨b,1,none⟩ v1).setCell ⟨b,2,none⟩ v2).setCell ⟨b,3,none⟩ v3).setCell ⟨b,4,none⟩ v4).setCell ⟨b,5,none⟩ v5).setCell ⟨b,6,none⟩ v6).setCell ⟨b,7,none⟩ v7):=
 (((((((h.low hB 0 v0).low (hB.put v0) 1 v1).low ((hB.put v0).put v1) 2 v2).low (((hB.put v0).put v1).put v2) 3 v3).low ((((hB.put v0).put v1).put v2).put v3) 4 v4).low (((((hB.put v0).put v1).put v2).put v3).put v4) 5 v5).low ((((((hB.put v0).put v1).put v2).put v3).put v4).put v5) 6 v6).low (((((((hB.put v0).put v1).put v2).put v3).put v4).put v5).put v6) 7 v7
section
variable {R:RC} {rs:List (List Nat × Nat × Int)} {ts:List Tok} {f:MF} {qs:List Value} {lo:Nat} {w:World}
theorem zkw (la:Option Addr)(lc:Nat)(i:Int)(ra:Option Addr)(rn rc:Nat)(na:Option Addr)(nn nc:Nat)(ca:Option Addr)(cn cc:Nat)(bad:Int)(dp:Bool)(op:Int)(ka:Option Addr)(kn kc:Nat)(k:Int)(g:MF)(hkn:kn≠1)(hk2:kn<=1000000000)
  (hC:∀W,Below w.heap.size w W->Calls qab 152 #[.agg #[jf la R.T.length lc,je jd i,jf ra rn rc,jf na nn nc,jf ca cn cc,je jd bad,ji dp,ji R.one],.agg #[je jd (if kn=0 then 0 else op),(if kn=0 then jf none 0 0 else jf ka kn kc),je jd 0,je jg 0,je jg 0,je jg 0,je jg 0]] W (RRes R k (RF R rs ts g qs lo) W)) :
  Calls qab 134 #[.agg #[jf la R.T.length lc,je jd i,jf ra rn rc,jf na nn nc,jf ca cn cc,je jd bad,ji dp,ji R.one],je jd op,jf ka kn kc] w (RRes R k (RF R rs ts g qs lo) w):=by
 have HC:=qaa hC;clear hC;by_cases h0:kn=0
 ·subst h0
  rw[if_pos rfl,if_pos rfl] at HC;have hZ:∀o:Obj,Bl ((w.alloc o).alloc (.cells zeroV 167)) (w.heap.size+1) 167 zeroV:=fun o=>Bl.new' jc
  have HZ:=qaa hZ;clear hZ;go_enter Tryz.func134,Tryz.ntmps134
  go_wp2_with (go_at_call 152;(with_reducible refine(HC.out _ (zbo w _ _)).mono ?_);rintro e w2 ⟨la2,lc2,i2,ra2,rn2,rc2,na2,nn2,nc2,ca2,cn2,cc2,bad2,dp2,rfl,hb,hq⟩;have hB2:=(HZ.out _).below hb;obtain⟨⟨c0,c1,c2,c3,c4,c5,c6,c7⟩,cf,cl⟩:=zad hB2;have HB2:=qaa hB2;have HBB:=qaa ((zbo w _ _).trans (hb.mono (by simp;omega)));have HQ:=qaa hq;clear hb hq hB2)
  clear c0 c1 c2 c3 c4 c5 c6 c7 cf;obtain⟨⟨c0,c1,c2,c3,c4,c5,c6,c7⟩,cf,-⟩:=zad (zay HB2.out (jf la2 R.T.length lc2) (je jd i2) (jf ra2 rn2 rc2) (jf na2 nn2 nc2) (jf ca2 cn2 cc2) (je jd bad2) (ji dp2) (ji R.one));refine bodyPost_ret (v:=jk #[.agg #[jf la2 R.T.length lc2,je jd i2,jf ra2 rn2 rc2,jf na2 nn2 nc2,jf ca2 cn2 cc2,je jd bad2,ji dp2,ji R.one],je jd k]) (by simp[results,Tryz.results134,go_sem,c0,c1,c2,c3,c4,c5,c6,c7]) rfl ?_;exact⟨la2,lc2,i2,ra2,rn2,rc2,na2,nn2,nc2,ca2,cn2,cc2,bad2,dp2,rfl,zbh HBB.out (Nat.le_succ _) _ _ _ _ _ _ _ _,RF.low8 HQ.out HB2.out _ _ _ _ _ _ _ _⟩
 ·have e0:((kn:Int) == 0)=false:=zav U
  have e1:((kn:Int) == 1)=false:=zav U;rw[if_neg h0,if_neg h0] at HC;clear h0 hkn;have hZ:∀o:Obj,Bl ((w.alloc o).alloc (.cells zeroV 167)) (w.heap.size+1) 167 zeroV:=fun o=>Bl.new' jc
  have HZ:=qaa hZ;clear hZ;go_enter Tryz.func134,Tryz.ntmps134
  go_wp2_with (go_at_call 152;(with_reducible refine(HC.out _ (zbo w _ _)).mono ?_);rintro e w2 ⟨la2,lc2,i2,ra2,rn2,rc2,na2,nn2,nc2,ca2,cn2,cc2,bad2,dp2,rfl,hb,hq⟩;have hB2:=(HZ.out _).below hb;obtain⟨⟨c0,c1,c2,c3,c4,c5,c6,c7⟩,cf,cl⟩:=zad hB2;have HB2:=qaa hB2;have HBB:=qaa ((zbo w _ _).trans (hb.mono (by simp;omega)));have HQ:=qaa hq;clear hb hq hB2)
  clear c0 c1 c2 c3 c4 c5 c6 c7 cf;obtain⟨⟨c0,c1,c2,c3,c4,c5,c6,c7⟩,cf,-⟩:=zad (zay HB2.out (jf la2 R.T.length lc2) (je jd i2) (jf ra2 rn2 rc2) (jf na2 nn2 nc2) (jf ca2 cn2 cc2) (je jd bad2) (ji dp2) (ji R.one));refine bodyPost_ret (v:=jk #[.agg #[jf la2 R.T.length lc2,je jd i2,jf ra2 rn2 rc2,jf na2 nn2 nc2,jf ca2 cn2 cc2,je jd bad2,ji dp2,ji R.one],je jd k]) (by simp[results,Tryz.results134,go_sem,c0,c1,c2,c3,c4,c5,c6,c7]) rfl ?_;exact⟨la2,lc2,i2,ra2,rn2,rc2,na2,nn2,nc2,ca2,cn2,cc2,bad2,dp2,rfl,zbh HBB.out (Nat.le_succ _) _ _ _ _ _ _ _ _,RF.low8 HQ.out HB2.out _ _ _ _ _ _ _ _⟩
theorem zwl (la:Option Addr)(lc:Nat)(i:Int)(ra:Option Addr)(rn rc:Nat)(na:Option Addr)(nn nc:Nat)(ca:Option Addr)(cn cc:Nat)(bad:Int)(dp:Bool)(op:Int)(kb:Nat)(kc:Nat)(k:Int)(hk:w.cell? ⟨kb,0,none⟩=some (je jd k))(h:RSt R rs ts f qs ⟨la,lc,i,ra,rn,rc,na,nn,nc,ca,cn,cc,bad,dp⟩ w) :
  Calls qab 134 #[.agg #[jf la R.T.length lc,je jd i,jf ra rn rc,jf na nn nc,jf ca cn cc,je jd bad,ji dp,ji R.one],je jd op,jf (some ⟨kb,0,none⟩) 1 kc] w (RRes R k (RF R rs ts f qs lo) w):=by
 have hkl:=zai hk;have HH:=qaa h;clear h;go_enter Tryz.func134,Tryz.ntmps134;go_wp2
 go_region_with fail
 all_goals
  go_wp2;refine bodyPost_ret (v:=jk #[.agg #[jf la R.T.length lc,je jd i,jf ra rn rc,jf na nn nc,jf ca cn cc,je jd bad,ji dp,ji R.one],je jd k]) (by simp[results,Tryz.results134,go_sem]) rfl ?_;refine⟨la,lc,i,ra,rn,rc,na,nn,nc,ca,cn,cc,bad,dp,rfl,?_,(HH.out.below ?_).rf⟩
  all_goals repeat (first|exact qaf _ _|refine Below.drew ?_|refine zac ?_ rfl _)
theorem zjg (x:SV)(op:Int)(ka:Option Addr)(kc:Nat)(ks:List Int)(h:RSt R rs ts f qs x w)(hlo:∀b,(Value.slice ka ks.length kc).ownBlock=some b->lo<=b)(hk:w.ownsRow R.base 3 1 (jf ka ks.length kc) ks.length (intsV ks))(hm:f.nodes.length<=100000000)(hkl:ks.length<=1000000000)(hbase:R.base<=w.heap.size)(h1:∀k,ks=[k]->k=lastI f) :
  Calls qab 134 #[x.v R,je jd op,jf ka ks.length kc] w (RRes R (lastI (joinN f op ks)) (RF R rs ts (joinN f op ks) qs lo) w):=by
 obtain⟨la,lc,i,ra,rn,rc,na,nn,nc,ca,cn,cc,bad,dp⟩:=x
 match ks,hk,h1,hkl,hlo with
 | [],hk,_,_,_=>
  refine zkw la lc i ra rn rc na nn nc ca cn cc bad dp op ka 0 kc (lastI (addN f (mkN 0 []))) (addN f (mkN 0 [])) ja ja fun W hb=>?_
  exact(zf3 (h.below hb) (mkN 0 []) none 0 (qav _ _ _ _) hm (qal hbase hb.size)).mono fun e w' k=>RRes.of k.1 (by
   obtain⟨x',k1,k2⟩:=k.2;exact⟨x',k1,[jf none 0 0],k2,fun q hq b hb=>by
    obtain rfl:=qam.1 hq;cases hb⟩)
 | [k],hk,h1,_,_=>
  obtain rfl:=h1 k rfl;rcases hk.2 with⟨e,h0⟩|⟨g,cap,cur,e,-⟩
  ·cases h0
  ·injection e with e1 e2 e3
   subst e1;refine zwl la lc i ra rn rc na nn nc ca cn cc bad dp op g kc (lastI f) ?_ h;have:=hk.cells rfl 0 (je jd (lastI f)) rfl;rw[qce] at this;exact this
 |k::l::r,hk,_,hkl,hlo=>
  refine zkw la lc i ra rn rc na nn nc ca cn cc bad dp op ka _ kc (lastI (addN f (mkN op (k::l::r)))) (addN f (mkN op (k::l::r))) jc hkl fun W hb=>?_
  exact(zf3 (h.below hb) (mkN op (k::l::r)) ka kc (zab hk hb) hm (qal hbase hb.size)).mono fun e w' k=>RRes.of k.1 (by
   obtain⟨x',k1,k2⟩:=k.2;exact⟨x',k1,_,k2,fun q hq b hb=>by
    obtain rfl:=qam.1 hq;exact hlo b hb⟩)
end
end
section
open Go.RowKit
section
variable (R:RC) (la:Option Addr) (lc:Nat) (i:Int) (ra:Option Addr) (rn rc:Nat) (na:Option Addr) (nn nc:Nat) (ca:Option Addr) (cn cc:Nat) (bad:Int) (dp:Bool) (d:Nat) (w:World)
theorem zz4 (n:Nat)(t u:Tok)(tl:List Tok)(h:RFix R ⟨la,lc,i,ra,rn,rc,na,nn,nc,ca,cn,cc,bad,dp⟩ w)(hi:i=n)(hn:R.T.drop n=t::u::tl)(ht:t.kind=1)(hd:d=0)(ho:R.one=false) :
  Calls qab 132 #[.agg #[jf la R.T.length lc,je jd i,jf ra rn rc,jf na nn nc,jf ca cn cc,je jd bad,ji dp,ji R.one],je jd (d:Int)] w fun e w'=>e=.returned (ji (!(kI u.kind == 2)))/\Below w.heap.size w w':=by
 have hK:=fun(W:World) (hb:Below w.heap.size w W)=>za9 R ⟨la,lc,i,ra,rn,rc,na,nn,nc,ca,cn,cc,bad,dp⟩ W n t (u::tl) (h.below hb) hi hn
 unfold SV.v at hK;have e1:kI t.kind=1:=by rw[ht];rfl
 rw[e1] at hK;have hn1:R.T.drop (n+1)=u::tl:=by
  have:=congrArg List.tail hn;rw[List.tail_drop] at this;exact this
 have hT:=fun(W:World) (hb:Below w.heap.size w W)=>(h.below hb).tok hn1
 have hlen:=h.2;have hnl:=(h.tok hn).1;rw[ho] at hK ⊢;subst hd;subst hi;obtain⟨kk,hkk⟩:∃y,kI u.kind=y:=⟨_,rfl⟩;have HK:=qaa hK;have HT:=qaa hT;obtain⟨L,hL⟩:∃L,R.T.length=L:=⟨_,rfl⟩;rw[hL] at HK HT hlen hnl ⊢;rw[hkk] at HT ⊢;have v1:IntKind.i64.wrap ((n:Int)+1)=(n:Int)+1:=qaq _ U;have d1:((0:Nat):Int)=0:=rfl;rw[d1];clear hK hT h hn hn1 ht ho e1 hL hkk d1;go_enter Tryz.func132,Tryz.ntmps132
 go_wp2_with (go_at_call 105;(with_reducible refine(HK.out _ (zaa w _)).mono ?_);rintro e w2 ⟨rfl,hb⟩;have HB:=qaa ((zaa w _).trans (hb.mono jc));obtain⟨hlt,b,hla,⟨c0,-⟩,hbl⟩:=HT.out w2 HB.out;have hla:la=some ⟨b,0,none⟩:=hla;subst hla;have k1:(n:Int)+1<(L:Int):=U;have hB2:=(Bl.new w 167 #[jf (some ⟨b,0,none⟩) L lc,je jd (n:Int),jf ra rn rc,jf na nn nc,jf ca cn cc,je jd bad,ji dp,ji false]).below hb;obtain⟨⟨b0,b1,b2,b3,b4,b5,b6,b7⟩,-,bl⟩:=zad hB2;clear hB2 hb)
 go_ret;exact⟨rfl,HB.out⟩
theorem zz5 (h1:∀W,Below w.heap.size w W->Calls qab 105 #[.agg #[jf la R.T.length lc,je jd i,jf ra rn rc,jf na nn nc,jf ca cn cc,je jd bad,ji dp,ji R.one]] W fun e w'=>e=.returned (je jd 1)/\Below W.heap.size W w')(hd:¬(d=0/\R.one=false)) :
  Calls qab 132 #[.agg #[jf la R.T.length lc,je jd i,jf ra rn rc,jf na nn nc,jf ca cn cc,je jd bad,ji dp,ji R.one],je jd (d:Int)] w fun e w'=>e=.returned (ji true)/\Below w.heap.size w w':=by
 have HK:=qaa h1;clear h1;by_cases h0:d=0
 ·subst h0
  have ho:R.one=true:=by
   cases h:R.one with
   |true=>rfl
   |false=>exact absurd ⟨rfl,h⟩ hd
  rw[ho] at HK ⊢;have d1:((0:Nat):Int)=0:=rfl;rw[d1];clear hd ho d1;go_enter Tryz.func132,Tryz.ntmps132
  go_wp2_with (go_at_call 105;(with_reducible refine(HK.out _ (zaa w _)).mono ?_);rintro e w2 ⟨rfl,hb⟩;have HB:=qaa ((zaa w _).trans (hb.mono jc));have hB2:=(Bl.new w 167 #[jf la R.T.length lc,je jd i,jf ra rn rc,jf na nn nc,jf ca cn cc,je jd bad,ji dp,ji true]).below hb;obtain⟨⟨b0,b1,b2,b3,b4,b5,b6,b7⟩,-,bl⟩:=zad hB2;clear hB2 hb)
  go_ret;exact⟨rfl,HB.out⟩
 ·have e1:((d:Int) == 0)=false:=zav U
  clear hd h0;go_enter Tryz.func132,Tryz.ntmps132
  go_wp2_with (go_at_call 105;(with_reducible refine(HK.out _ (zaa w _)).mono ?_);rintro e w2 ⟨rfl,hb⟩;have HB:=qaa ((zaa w _).trans (hb.mono jc));clear hb)
  go_ret;exact⟨rfl,HB.out⟩
theorem zwm (k:Int)(b:Bool)(hk1:k≠1)(h1:∀W,Below w.heap.size w W->Calls qab 105 #[.agg #[jf la R.T.length lc,je jd i,jf ra rn rc,jf na nn nc,jf ca cn cc,je jd bad,ji dp,ji R.one]] W fun e w'=>e=.returned (je jd k)/\Below W.heap.size W w')(hb:b=((k == 4) || (k == 5) || (k == 9) || decide (11<=k))) :
  Calls qab 132 #[.agg #[jf la R.T.length lc,je jd i,jf ra rn rc,jf na nn nc,jf ca cn cc,je jd bad,ji dp,ji R.one],je jd (d:Int)] w fun e w'=>e=.returned (ji b)/\Below w.heap.size w w':=by
 have HK:=qaa h1;have e1:(k == 1)=false:=zae hk1;clear h1 hk1;by_cases h4:k=4
 ·subst h4
  replace hb:b=true:=hb;subst hb;go_enter Tryz.func132,Tryz.ntmps132
  go_wp2_with (go_at_call 105;(with_reducible refine(HK.out _ (zaa w _)).mono ?_);rintro e w2 ⟨rfl,hb⟩;have HB:=qaa ((zaa w _).trans (hb.mono jc));clear hb)
  go_ret;exact⟨rfl,HB.out⟩
 by_cases h5:k=5
 ·subst h5
  replace hb:b=true:=hb;subst hb;go_enter Tryz.func132,Tryz.ntmps132
  go_wp2_with (go_at_call 105;(with_reducible refine(HK.out _ (zaa w _)).mono ?_);rintro e w2 ⟨rfl,hb⟩;have HB:=qaa ((zaa w _).trans (hb.mono jc));clear hb)
  go_ret;exact⟨rfl,HB.out⟩
 by_cases h9:k=9
 ·subst h9
  replace hb:b=true:=hb;subst hb;go_enter Tryz.func132,Tryz.ntmps132
  go_wp2_with (go_at_call 105;(with_reducible refine(HK.out _ (zaa w _)).mono ?_);rintro e w2 ⟨rfl,hb⟩;have HB:=qaa ((zaa w _).trans (hb.mono jc));clear hb)
  go_ret;exact⟨rfl,HB.out⟩
 have e4:(k == 4)=false:=zae h4;have e5:(k == 5)=false:=zae h5;have e9:(k == 9)=false:=zae h9;replace hb:b=decide (11<=k):=by rw[hb,e4,e5,e9];rfl
 subst hb;clear h4 h5 h9;go_enter Tryz.func132,Tryz.ntmps132
 go_wp2_with (go_at_call 105;(with_reducible refine(HK.out _ (zaa w _)).mono ?_);rintro e w2 ⟨rfl,hb⟩;have HB:=qaa ((zaa w _).trans (hb.mono jc));clear hb)
 go_ret;exact⟨rfl,HB.out⟩
end
theorem kI_ne {k m:Nat}(h:k≠m):kI k≠(m:Int):=by
 unfold kI;split
 ·omega
 ·omega
theorem zz6 {R:RC}{x:SV}(h:RSt R rs ts f qs x w)(hE:Endy ts)(d:Nat):Calls qab 132 #[x.v R,je jd (d:Int)] w fun e w'=>e=.returned (ji (begB (!R.one&&decide (d=0)) ts))/\Below w.heap.size w w':=by
 obtain⟨la,lc,i,ra,rn,rc,na,nn,nc,ca,cn,cc,bad,dp⟩:=x;obtain⟨h1,h2,h3,⟨n,hi,hn⟩,-⟩:=h;have hkind:=hE.kind
 match ts,hE,hn,hkind with
 |t::tl,hE,hn,hkind=>
  have hK:=fun(W:World) (hb:Below w.heap.size w W)=>za9 R ⟨la,lc,i,ra,rn,rc,na,nn,nc,ca,cn,cc,bad,dp⟩ W n t tl (h1.below hb) hi hn
  by_cases hk1:t.kind=1
  ·have hbg:begB (!R.one&&decide (d=0)) (t::tl)=!((!R.one&&decide (d=0))&&kd tl == 2):=if_pos hk1
   rw[hbg];by_cases hd:d=0/\R.one=false
   ·obtain⟨hd,ho⟩:=hd
    have htl:=hE.tail (show t.kind≠0 by omega) (show t.kind≠99 by omega)
    match tl,htl,hE,hn with
    |u::r,htl,hE,hn=>
     have:=zz4 R la lc i ra rn rc na nn nc ca cn cc bad dp d w n t u r h1 hi hn hk1 hd ho;have e1:(kI u.kind == 2)=(kd (u::r) == 2):=by
      have hku:=htl.kind;show(kI u.kind == 2)=(u.kind == 2);unfold kI;rw[qcd,beq_iff_eq,beq_iff_eq];have hku:u.kind<=13∨u.kind=99:=hku;split<;>omega
     rw[e1] at this;rw[ho,decide_eq_true hd];exact this
   ·have hf:(!R.one&&decide (d=0))=false:=by
     cases ho:R.one with
     |true=>rfl
     |false=>rw[decide_eq_false (fun e=>hd ⟨e,ho⟩)];rfl
    rw[hf];exact zz5 R la lc i ra rn rc na nn nc ca cn cc bad dp d w (fun W hb=>by
     have:=hK W hb;rw[show kI t.kind=1 by rw[hk1];rfl] at this;exact this) hd
  ·have hbg:begB (!R.one&&decide (d=0)) (t::tl)=decide (t.kind=4∨t.kind=5∨t.kind=9∨t.kind=11∨t.kind=12∨t.kind=13):=if_neg hk1
   rw[hbg];have hkk:t.kind<=13∨t.kind=99:=hkind;refine zwm R la lc i ra rn rc na nn nc ca cn cc bad dp d w (kI t.kind) _ (kI_ne hk1) hK ?_;unfold kI;rw[qcd];simp only[decide_eq_true_eq,Bool.or_eq_true,beq_iff_eq];split<;>omega
end
