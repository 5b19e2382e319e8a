/- The contracts of the reference's readers: in, digits, Read. The reference's Read at three digits. The contract of the reference's Read. The contracts of the ref -/
import Derived.Deep.QuietTactic
import Derived.BigQuiet
import Derived.IntWalk
import Derived.Test.YtmopdlbpkiaoeaaGreatDoorPqB
set_option maxRecDepth 100000
set_option maxHeartbeats 2000000
open Go.IntKind renaming i64->jd, u64->jg, u8->jl
open Go.Value renaming int->je, string->jh, bool->ji, tuple->jk
namespace Go.Proofs.YtmopdlbpkiaoeaaGreatDoor
open Bool renaming and_false->qdv, eq_iff_iff->qcd, true_and->qen
open Go.IntWalk renaming i64_in->qaq
open Go.Lib renaming hid->qaa
open Go.Proofs.Tryz renaming func114->qeh, ntmps114->qd8, prog->qab
open List renaming all_eq_true->qci, drop_drop->qb1, drop_eq_nil_of_le->qay, length_drop->qa2
open List.cons renaming inj->qdf
open Nat renaming le_refl->qac, zero_le->qaj
open Go.RowKit
variable {x:Int}{l r:List Nat}{c d m mx p:Nat}{w w':World}
def inB (c:Nat):List Nat->Bool
 | []=>false
 |d::r=>if d=c then true else inB c r
theorem z33 {d:Nat}(h:d=c):inB c (d::r)=true:=by
 show(if d=c then true else inB c r)=true;rw[if_pos h]
theorem zkm {d:Nat}(h:¬d=c):inB c (d::r)=inB c r:=by
 show(if d=c then true else inB c r)=inB c r;rw[if_neg h]
theorem z2h (c:Nat)(s:ByteArray)(w:World)(hs:s.size<=2000000) :
  Calls qab 158 #[je jl (c:Int),jh s] w fun e w'=>e=.returned (ji (inB c (bts s)))/\w'=w:=by
 go_enter Tryz.func158,Tryz.ntmps158;go_wp2
 go_loop [5] (fun i=>∃k:Nat,k<=s.size/\i=je jd k/\inB c (bts s)=inB c ((bts s).drop k)) (fun i=>s.size-(intOf i).toNat)
 case atStart=>exact⟨0,qaj _,rfl,rfl⟩
 case round=>
  obtain⟨k,hk,rfl,hi⟩:=hrel;have HI:=qaa hi;clear hi;by_cases hlt:k<s.size
  ·have hd:=qaa (zas s k hlt)
   by_cases he:s[k].toNat=c
   ·have hr:=qaa (show inB c (bts s)=true by rw[HI.out,hd.out,z33 he])
    go_wp2;go_ret;exact⟨zap hr.out.symm,rfl⟩
   ·have hr:=qaa (show inB c (bts s)=inB c ((bts s).drop (k+1)) by rw[HI.out,hd.out,zkm he])
    have hb:((s[k].toNat:Int) == (c:Int))=false:=by rw[beq_eq_false_iff_ne];omega
    go_wp2
    go_round
    case rel=>exact⟨k+1,U,by go_num,hr.out⟩
    case measure=>simp[intOf];omega
  ·have hr:=qaa (show inB c (bts s)=false by rw[HI.out,qay (by rw[zaj];omega)];rfl)
   go_wp2;go_ret;exact⟨zap hr.out.symm,rfl⟩
theorem zrb (l:List Nat)(k:Nat)(d:Nat)(r:List Nat)(h:l.drop k=d::r):(l.take (k+1)).all oct=((l.take k).all oct&&oct d):=by
 have hk:k<l.length:=by
  rcases Nat.lt_or_ge k l.length with h'|h'
  ·exact h'
  ·rw[qay h'] at h;cases h
 rw[List.drop_eq_getElem_cons hk] at h;rw[List.take_succ_eq_append_getElem hk,List.all_append,<-(qdf h).1];simp
theorem zvq {k:Nat}(h:l.drop k=d::r)(hd:oct d=false)(hk:k<m):(l.take m).all oct=false:=by
 have h1:=zrb l k d r h;rw[hd,qdv] at h1;cases he:(l.take m).all oct with
 |false=>rfl
 |true=>
  rw[qci] at he;have:(l.take (k+1)).all oct=true:=by
   rw[qci];intro x hx;exact he x (by
    have e:l.take (k+1)=(l.take m).take (k+1):=by rw[List.take_take,Nat.min_eq_left hk]
    rw[e] at hx;exact List.mem_of_mem_take hx)
  rw[this] at h1;cases h1
theorem z34 (h:¬m<=l.length):dg l m mx=false:=by unfold dg;simp[h]
theorem zvr (h:l=d::r)(hd:¬(48<=d/\d<=mx)):dg l m mx=false:=by
 subst h;unfold dg;rw[List.headD_cons];simp only[hd,decide_false,Bool.false_and,qdv]
theorem z6i (h:l=d::r)(hm:m<=l.length)(hd:48<=d/\d<=mx){b:Bool}(hb:(l.take m).all oct=b):dg l m mx=b:=by
 subst h;subst hb;unfold dg;rw[List.headD_cons,decide_eq_true hm,decide_eq_true hd,qen,qen]
theorem zs1 (s:ByteArray)(p m mx:Nat)(w:World)(hs:s.size<=2000000)(hp:p<s.size)(h1:1<=m)(h3:m<=3) :
  Calls qab 159 #[jh s,je jd (p:Int),je jd (m:Int),je jl (mx:Int)] w fun e w'=>e=.returned (ji (dg ((bts s).drop p) m mx))/\w'=w:=by
 have hd:=qaa (zas s p hp);have hlen:((bts s).drop p).length=s.size-p:=by rw[qa2,zaj]
 by_cases hm:p+m<=s.size
 ·have hm':¬(s.size:Int)<(p:Int)+m:=U
  by_cases h48:48<=s[p].toNat
  ·have h48':¬(s[p].toNat:Int)<48:=U
   by_cases hmx:s[p].toNat<=mx
   ·have hmx':¬(mx:Int)<(s[p].toNat:Int):=U
    have HA:∀b,(((bts s).drop p).take m).all oct=b->dg ((bts s).drop p) m mx=b:=fun b hb=>z6i hd.out (by rw[hlen];omega) ⟨h48,hmx⟩ hb
    have HD:=qaa HA;clear HA;have HL:=qaa hlen;clear hlen;go_enter Tryz.func159,Tryz.ntmps159;go_wp2
    go_loop [9] (fun i=>∃k:Nat,k<=m/\i=je jd ((p+k:Nat):Int)/\(((bts s).drop p).take k).all oct=true) (fun i=>p+m-(intOf i).toNat)
    case atStart=>exact⟨0,qaj _,rfl,jc⟩
    case round=>
     obtain⟨k,hk,rfl,hi⟩:=hrel;have HI:=qaa hi;clear hi;by_cases hlt:k<m
     ·have hpk:p+k<s.size:=U
      have hdk:((bts s).drop p).drop k=s[p+k].toNat::(bts s).drop (p+k+1):=by rw[qb1];exact zas s (p+k) hpk
      have hsn:=zrb _ _ _ _ hdk;rw[HI.out,qen] at hsn;have HS:=qaa hsn;have HK:=qaa hdk;clear hsn hdk;have hlt':(p:Int)+k<(p:Int)+m:=U
      by_cases ho:48<=s[p+k].toNat/\s[p+k].toNat<=55
      ·have ho':=qaa ((zej _).2 ho)
       obtain⟨oa,ob⟩:=ho;have oa':¬(s[p+k].toNat:Int)<48:=U
       have ob':¬55<(s[p+k].toNat:Int):=U
       go_wp2
       go_round
       case rel=>exact⟨k+1,U,by go_num,by rw[HS.out];exact ho'.out⟩
       case measure=>simp[intOf];omega
      ·have hr:=qaa (HD.out false (zvq HK.out ((zub _).2 ho) hlt))
       by_cases oa:48<=s[p+k].toNat
       ·have oa':¬(s[p+k].toNat:Int)<48:=U
        have ob':55<(s[p+k].toNat:Int):=U
        go_wp2;go_ret;exact⟨zap hr.out.symm,rfl⟩
       ·have oa':(s[p+k].toNat:Int)<48:=U
        go_wp2;go_ret;exact⟨zap hr.out.symm,rfl⟩
     ·obtain rfl:k=m:=U
      have hr:=qaa (HD.out true HI.out);have hlt':¬(p:Int)+k<(p:Int)+k:=U
      go_wp2;go_ret;exact⟨zap hr.out.symm,rfl⟩
   ·have hr:=qaa (zvr (m:=m) (mx:=mx) hd.out U)
    have hmx':(mx:Int)<(s[p].toNat:Int):=U
    go_enter Tryz.func159,Tryz.ntmps159;go_wp2;go_ret;exact⟨zap hr.out.symm,rfl⟩
  ·have hr:=qaa (zvr (m:=m) (mx:=mx) hd.out U)
   have h48':(s[p].toNat:Int)<48:=U
   go_enter Tryz.func159,Tryz.ntmps159;go_wp2;go_ret;exact⟨zap hr.out.symm,rfl⟩
 ·have hr:=qaa (z34 (m:=m) (mx:=mx) (l:=(bts s).drop p) (by rw[hlen];omega))
  have hm':(s.size:Int)<(p:Int)+m:=U
  go_enter Tryz.func159,Tryz.ntmps159;go_wp2;go_ret;exact⟨zap hr.out.symm,rfl⟩
def zng (l:List Nat)(p:Int):Value:=
 match rd l p with
 |none=>jk #[je jd 0,je jd (-1)]
 |some (c,n)=>jk #[je jd (c:Int),je jd (p+(n:Int))]
def RReadIs (l:List Nat)(p:Int)(w:World)(e:Ending)(w':World):Prop:=e=.returned (zng l p)/\∃n,w'=w.drewN n
theorem RReadIs.no {p:Int}(h:rd l p=none)(hw:∃n,w'=w.drewN n):RReadIs l p w (.returned (jk #[je jd 0,je jd (-1)])) w':=by
 unfold RReadIs zng;rw[h];exact⟨rfl,hw⟩
theorem RReadIs.yes {p:Int}{n:Nat}{y:Int}(h:rd l p=some (c,n))(hw:∃n,w'=w.drewN n)(hx:x=c)(hy:y=p+n):RReadIs l p w (.returned (jk #[je jd x,je jd y])) w':=by
 unfold RReadIs zng;rw[h,hx,hy];exact⟨rfl,hw⟩
theorem zzq (d:Nat)(h:¬(d=39∨d=34∨d=91∨d=93∨d=92)):inB d (bts ⟨#[39,34,91,93,92]⟩)=false:=by
 show inB d [39,34,91,93,92]=false;rw[zkm U,zkm U,zkm U,zkm U,zkm U];rfl
theorem z35 (c:Nat)(s:ByteArray)(w:World)(hs:s.size<=2000000)(h:inB c (bts s)=true) :
  Calls qab 158 #[je jl (c:Int),jh s] w fun e w'=>e=.returned (ji true)/\w'=w:=by
 have:=z2h c s w hs;rw[h] at this;exact this
theorem zih (c:Nat)(w:World)(h:inB c (bts ⟨#[39,34,91,93,92]⟩)=false) :
  Calls qab 158 #[je jl (c:Int),jh ⟨#[39,34,91,93,92]⟩] w fun e w'=>e=.returned (ji false)/\w'=w:=by
 have:=z2h c ⟨#[39,34,91,93,92]⟩ w ja;rw[h] at this;exact this
theorem zi6 (s:ByteArray)(k:Nat)(m mx:Nat)(b:Bool)(w:World)(hs:s.size<=2000000)(hp:k+1<s.size)(h1:1<=m)(h3:m<=3)(h:dg ((bts s).drop (k+1)) m mx=b) :
  Calls qab 159 #[jh s,je jd ((k:Int)+1),je jd (m:Int),je jl (mx:Int)] w fun e w'=>e=.returned (ji b)/\w'=w:=by
 have:=zs1 s (k+1) m mx w hs hp h1 h3;rw[h] at this;exact this
theorem zlu (s:ByteArray)(k:Nat)(b:Bool)(w:World)(hs:s.size<=2000000)(hp:k+1<s.size)(h:dg ((bts s).drop (k+1)) 3 50=b) :
  Calls qab 159 #[jh s,je jd ((k:Int)+1),je jd 3,je jl 50] w fun e w'=>e=.returned (ji b)/\w'=w:=zi6 s k 3 50 b w hs hp U U h
theorem zpm (s:ByteArray)(k:Nat)(b:Bool)(w:World)(hs:s.size<=2000000)(hp:k+1<s.size)(h:dg ((bts s).drop (k+1)) 2 55=b) :
  Calls qab 159 #[jh s,je jd ((k:Int)+1),je jd 2,je jl 55] w fun e w'=>e=.returned (ji b)/\w'=w:=zi6 s k 2 55 b w hs hp U U h
theorem zvs (s:ByteArray)(k:Nat)(b:Bool)(w:World)(hs:s.size<=2000000)(hp:k+1<s.size)(h:dg ((bts s).drop (k+1)) 1 55=b) :
  Calls qab 159 #[jh s,je jd ((k:Int)+1),je jd 1,je jl 55] w fun e w'=>e=.returned (ji b)/\w'=w:=zi6 s k 1 55 b w hs hp U U h
theorem dg_at {s:ByteArray}{q:Nat}(hm:1<=m)(h:dg ((bts s).drop q) m mx=true):q+m<=s.size/\(∀h:q<s.size,s[q].toNat<=mx)/\∀j,j<m->∀h:q+j<s.size,48<=s[q+j].toNat/\s[q+j].toNat<=55:=by
 unfold dg at h;simp only[Bool.and_eq_true,decide_eq_true_eq] at h;obtain⟨h1,h2,h3⟩:=h;rw[qa2,zaj] at h1;refine⟨U,fun h=>?_,fun j hj h=>?_⟩
 ·rw[zas s q h,List.headD_cons] at h2
  exact h2.2
 ·rw[qci] at h3
  have:=h3 s[q+j].toNat (by
   refine List.mem_of_getElem? (i:=j) ?_;rw[List.getElem?_take_of_lt hj,List.getElem?_drop];exact zt6 s (q+j) h)
  exact(zej _).1 this
theorem zi7 (s:ByteArray)(q j:Nat)(h:q+j<s.size):((bts s).drop q).getD j 0=s[q+j].toNat:=by
 rw[List.getD_eq_getElem?_getD,List.getElem?_drop,zt6 s (q+j) h];rfl
theorem drew0 (w:World):∃n,w=w.drewN n:=⟨0,rfl⟩
theorem zpn (s:ByteArray)(k:Nat)(w:World)(hs:s.size<=2000000)(hk:k<s.size)(h92:s[k].toNat=92)(hk1:k+1<s.size)
  (h256:s[k+1].toNat<256) (b1:((s[k+1].toNat:Int) == 110)=false) (b2:((s[k+1].toNat:Int) == 114)=false) (b3:((s[k+1].toNat:Int) == 116)=false)
  (hin:Hid (inB s[k+1].toNat (bts ⟨#[39,34,91,93,92]⟩)=false)) (d3:dg ((bts s).drop (k+1)) 3 50=true)
  (hn:¬(k:Int)<0)
  (hy:∀(h2:k+2<s.size) (h3:k+3<s.size),rd (bts s) (k:Int)=some (64*(s[k+1].toNat-48)+8*(s[k+2].toNat-48)+(s[k+3].toNat-48),4)) :
  Calls qab 150 #[jh s,je jd (k:Int)] w (RReadIs (bts s) (k:Int) w):=by
 obtain⟨z,r50,r⟩:=dg_at U d3;have hk2:k+2<s.size:=U
 have hk3:k+3<s.size:=U
 have r0:48<=s[k+1].toNat/\s[k+1].toNat<=55:=r 0 U hk1;have r1:48<=s[k+2].toNat/\s[k+2].toNat<=55:=r 1 U hk2;have r2:48<=s[k+3].toNat/\s[k+3].toNat<=55:=r 2 U hk3;have r5:=r50 hk1;clear r r50;have HY:=qaa (hy hk2 hk3);clear hy;have D3:=qaa d3;clear d3;have a1:(48:Int)<=(s[k+1].toNat:Int):=U
 have a2:(s[k+1].toNat:Int)<=50:=U
 have a3:(48:Int)<=(s[k+2].toNat:Int):=U
 have a4:(s[k+2].toNat:Int)<=55:=U
 have a5:(48:Int)<=(s[k+3].toNat:Int):=U
 have a6:(s[k+3].toNat:Int)<=55:=U
 go_enter Tryz.func150,Tryz.ntmps150
 go_wp2_with (first
  |(go_at_call 158;(with_reducible refine(zih _ _ hin.out).mono ?_);rintro e w' ⟨rfl,hw⟩;obtain rfl:=hw.symm;clear hw)
  |(go_at_call 159;(with_reducible refine(zlu s k true _ hs hk1 D3.out).mono ?_);rintro e w' ⟨rfl,hw⟩;obtain rfl:=hw.symm;clear hw))
 have q1:IntKind.u8.wrap ((s[k+1].toNat:Int)-48)=(s[k+1].toNat:Int)-48:=IntWalk.u8_in _ U;have q2:IntKind.u8.wrap ((s[k+2].toNat:Int)-48)=(s[k+2].toNat:Int)-48:=IntWalk.u8_in _ U;have q3:IntKind.u8.wrap ((s[k+3].toNat:Int)-48)=(s[k+3].toNat:Int)-48:=IntWalk.u8_in _ U;have q4:IntKind.i64.wrap ((s[k+1].toNat:Int)-48)=(s[k+1].toNat:Int)-48:=qaq _ U;have q5:IntKind.i64.wrap ((s[k+2].toNat:Int)-48)=(s[k+2].toNat:Int)-48:=qaq _ U;have q6:IntKind.i64.wrap ((s[k+3].toNat:Int)-48)=(s[k+3].toNat:Int)-48:=qaq _ U;have q7:IntKind.i64.wrap (64*((s[k+1].toNat:Int)-48))=64*((s[k+1].toNat:Int)-48):=qaq _ U;have q8:IntKind.i64.wrap (8*((s[k+2].toNat:Int)-48))=8*((s[k+2].toNat:Int)-48):=qaq _ U;have q9:IntKind.i64.wrap (64*((s[k+1].toNat:Int)-48)+8*((s[k+2].toNat:Int)-48))=64*((s[k+1].toNat:Int)-48)+8*((s[k+2].toNat:Int)-48):=qaq _ U;have q10:IntKind.i64.wrap (64*((s[k+1].toNat:Int)-48)+8*((s[k+2].toNat:Int)-48)+((s[k+3].toNat:Int)-48))=64*((s[k+1].toNat:Int)-48)+8*((s[k+2].toNat:Int)-48)+((s[k+3].toNat:Int)-48):=qaq _ U;have p2:IntKind.i64.wrap ((k:Int)+2)=(k:Int)+2:=qaq _ U;have p3:IntKind.i64.wrap ((k:Int)+3)=(k:Int)+3:=qaq _ U;have p4:IntKind.i64.wrap ((k:Int)+4)=(k:Int)+4:=qaq _ U;have n2:0<=(k:Int)+2:=U
 have n3:0<=(k:Int)+3:=U
 have t2:((k:Int)+2).toNat=k+2:=U
 have t3:((k:Int)+3).toNat=k+3:=U
 have m2:(k:Int)+2<(s.size:Int):=U
 have m3:(k:Int)+3<(s.size:Int):=U
 go_quiet (fail);clear q1 q2 q3 q4 q5 q6 q7 q8 q9 q10 p2 p3 p4;go_wp2
 go_ret2
 exact RReadIs.yes HY.out ⟨nq,rfl⟩ U rfl
theorem znh (s:ByteArray)(p:Int)(w:World)(hs:s.size<=2000000) :
  Calls qab 150 #[jh s,je jd p] w (RReadIs (bts s) p w):=by
 by_cases hn:p<0
 ·have hr:=qaa (zt8 (bts s) p hn)
  go_enter Tryz.func150,Tryz.ntmps150;go_wp2
  go_ret2
  exact RReadIs.no hr.out (drew0 _)
 ·obtain⟨k,rfl⟩:∃k:Nat,p=k:=⟨p.toNat,U⟩
  by_cases hk:k<s.size
  ·have hd:=zas s k hk
   by_cases h92:s[k].toNat=92
   ·rw[h92] at hd
    by_cases hk1:k+1<s.size
    ·have hd1:=zas s (k+1) hk1
     have hr:rd (bts s) (k:Int)=if (esc ((bts s).drop (k+1))).2=0 then none else some ((esc ((bts s).drop (k+1))).1,1+(esc ((bts s).drop (k+1))).2):=by
      rw[zcn,hd,zir]
     have HR:=qaa hr;have HD1:=qaa hd1;clear hr hd1 hd;have hlen:((bts s).drop (k+1)).length=s.size-(k+1):=by rw[qa2,zaj]
     have h256:s[k+1].toNat<256:=s[k+1].toNat_lt;by_cases hx:s[k+1].toNat=110∨s[k+1].toNat=114∨s[k+1].toNat=116
     ·rcases hx with h|h|h
      all_goals
       have hy:∃e,rd (bts s) (k:Int)=some (e,2)/\(e=if s[k+1].toNat=110 then 10 else if s[k+1].toNat=114 then 13 else 9):=by
        rw[HR.out,HD1.out,h,zb3];exact⟨_,rfl,rfl⟩
       obtain⟨e,hy,he⟩:=hy;rw[h] at he;have HY:=qaa hy;have HE:=qaa he;clear hy he;go_enter Tryz.func150,Tryz.ntmps150;go_wp2
       go_ret2
       exact RReadIs.yes HY.out (drew0 _) (by rw[HE.out];rfl) rfl
     ·by_cases h5:s[k+1].toNat=39∨s[k+1].toNat=34∨s[k+1].toNat=91∨s[k+1].toNat=93∨s[k+1].toNat=92
      ·rcases h5 with h|h|h|h|h
       all_goals
        have hy:rd (bts s) (k:Int)=some (s[k+1].toNat,2):=by
         rw[HR.out,HD1.out,h,zb3];rfl
        rw[h] at hy;have HY:=qaa hy;clear hy;go_enter Tryz.func150,Tryz.ntmps150
        go_wp2_with (go_at_call 158;refine(z35 _ _ _ ja ja).mono ?_;rintro e w' ⟨rfl,hw⟩;obtain rfl:=hw.symm;clear hw)
        go_ret2
        exact RReadIs.yes HY.out (drew0 _) rfl rfl
      ·have he:=z2a s[k+1].toNat ((bts s).drop (k+1+1)) U U U h5
       rw[<-HD1.out] at he;have b1:=zav (d:=s[k+1].toNat) (k:=110) U;have b2:=zav (d:=s[k+1].toNat) (k:=114) U;have b3:=zav (d:=s[k+1].toNat) (k:=116) U;have hin:=qaa (zzq _ h5);clear hx h5;cases d3:dg ((bts s).drop (k+1)) 3 50
       ·cases d2:dg ((bts s).drop (k+1)) 2 55
        ·cases d1:dg ((bts s).drop (k+1)) 1 55
         ·have hy:rd (bts s) (k:Int)=none:=by
           rw[HR.out,he,d3,d2,d1];rfl
          have HY:=qaa hy;have D3:=qaa d3;have D2:=qaa d2;have D1:=qaa d1;clear hy he d3 d2 d1;go_enter Tryz.func150,Tryz.ntmps150
          go_wp2_with (first
           |(go_at_call 158;(with_reducible refine(zih _ _ hin.out).mono ?_);rintro e w' ⟨rfl,hw⟩;obtain rfl:=hw.symm;clear hw)
           |(go_at_call 159;(with_reducible refine(zlu s k false _ hs hk1 D3.out).mono ?_);rintro e w' ⟨rfl,hw⟩;obtain rfl:=hw.symm;clear hw)
           |(go_at_call 159;(with_reducible refine(zpm s k false _ hs hk1 D2.out).mono ?_);rintro e w' ⟨rfl,hw⟩;obtain rfl:=hw.symm;clear hw)
           |(go_at_call 159;(with_reducible refine(zvs s k false _ hs hk1 D1.out).mono ?_);rintro e w' ⟨rfl,hw⟩;obtain rfl:=hw.symm;clear hw))
          go_ret2
          exact RReadIs.no HY.out (drew0 _)
         ·obtain⟨z,-,r⟩:=dg_at U d1
          have r0:48<=s[k+1].toNat/\s[k+1].toNat<=55:=r 0 U hk1;clear r;have hy:rd (bts s) (k:Int)=some (s[k+1].toNat-48,2):=by
           rw[HR.out,he,d3,d2,d1];rfl
          have HY:=qaa hy;have D3:=qaa d3;have D2:=qaa d2;have D1:=qaa d1;clear hy he d3 d2 d1;have a1:(48:Int)<=(s[k+1].toNat:Int):=U
          have a2:(s[k+1].toNat:Int)<=55:=U
          go_enter Tryz.func150,Tryz.ntmps150
          go_wp2_with (first
           |(go_at_call 158;(with_reducible refine(zih _ _ hin.out).mono ?_);rintro e w' ⟨rfl,hw⟩;obtain rfl:=hw.symm;clear hw)
           |(go_at_call 159;(with_reducible refine(zlu s k false _ hs hk1 D3.out).mono ?_);rintro e w' ⟨rfl,hw⟩;obtain rfl:=hw.symm;clear hw)
           |(go_at_call 159;(with_reducible refine(zpm s k false _ hs hk1 D2.out).mono ?_);rintro e w' ⟨rfl,hw⟩;obtain rfl:=hw.symm;clear hw)
           |(go_at_call 159;(with_reducible refine(zvs s k true _ hs hk1 D1.out).mono ?_);rintro e w' ⟨rfl,hw⟩;obtain rfl:=hw.symm;clear hw))
          go_ret2
          exact RReadIs.yes HY.out (drew0 _) U rfl
        ·obtain⟨z,-,r⟩:=dg_at U d2
         have hk2:k+2<s.size:=U
         have r0:48<=s[k+1].toNat/\s[k+1].toNat<=55:=r 0 U hk1;have r1:48<=s[k+2].toNat/\s[k+2].toNat<=55:=r 1 U hk2;clear r;have hy:rd (bts s) (k:Int)=some (8*(s[k+1].toNat-48)+(s[k+2].toNat-48),3):=by
          rw[HR.out,he,d3,d2];have e1:=zi7 s (k+1+1) 0 hk2;rw[e1];rfl
         have HY:=qaa hy;have D3:=qaa d3;have D2:=qaa d2;clear hy he d3 d2;have a1:(48:Int)<=(s[k+1].toNat:Int):=U
         have a2:(s[k+1].toNat:Int)<=55:=U
         have a3:(48:Int)<=(s[k+2].toNat:Int):=U
         have a4:(s[k+2].toNat:Int)<=55:=U
         go_enter Tryz.func150,Tryz.ntmps150
         go_wp2_with (first
          |(go_at_call 158;(with_reducible refine(zih _ _ hin.out).mono ?_);rintro e w' ⟨rfl,hw⟩;obtain rfl:=hw.symm;clear hw)
          |(go_at_call 159;(with_reducible refine(zlu s k false _ hs hk1 D3.out).mono ?_);rintro e w' ⟨rfl,hw⟩;obtain rfl:=hw.symm;clear hw)
          |(go_at_call 159;(with_reducible refine(zpm s k true _ hs hk1 D2.out).mono ?_);rintro e w' ⟨rfl,hw⟩;obtain rfl:=hw.symm;clear hw))
         go_ret2
         exact RReadIs.yes HY.out (drew0 _) U rfl
       ·obtain⟨z,-,-⟩:=dg_at U d3
        have hk2:k+2<s.size:=U
        have hk3:k+3<s.size:=U
        have hy:rd (bts s) (k:Int)=some (64*(s[k+1].toNat-48)+8*(s[k+2].toNat-48)+(s[k+3].toNat-48),4):=by
         rw[HR.out,he,d3];have e1:=zi7 s (k+1+1) 0 hk2;have e2:=zi7 s (k+1+1) 1 hk3;rw[e1,e2];rfl
        have HY:=qaa hy;exact zpn s k w hs hk h92 hk1 h256 b1 b2 b3 hin d3 hn (fun _ _=>HY.out)
    ·have hr:=qaa (show rd (bts s) (k:Int)=none by rw[zcn,hd,qay (by rw[zaj];omega)];rfl)
     clear hd;go_enter Tryz.func150,Tryz.ntmps150;go_wp2
     go_ret2
     exact RReadIs.no hr.out (drew0 _)
   ·have hr:=qaa (show rd (bts s) (k:Int)=some (s[k].toNat,1) by rw[zcn,hd,zdi _ _ h92])
    have hb:=zav (d:=s[k].toNat) (k:=92) U;have h256:s[k].toNat<256:=s[k].toNat_lt;have h255:(s[k].toNat:Int)<=255:=U
    clear hd h256;go_enter Tryz.func150,Tryz.ntmps150;go_wp2
    go_ret2
    exact RReadIs.yes hr.out (drew0 _) rfl rfl
  ·have hr:=qaa (zt9 (bts s) k (by rw[zaj];omega))
   go_enter Tryz.func150,Tryz.ntmps150;go_wp2
   go_ret2
   exact RReadIs.no hr.out (drew0 _)
theorem zlv (s:ByteArray)(p:Int)(w:World)(hs:s.size<=2000000)(h:rd (bts s) p=none) :
  Calls qab 150 #[jh s,je jd p] w fun e w'=>e=.returned (jk #[je jd 0,je jd (-1)])/\∃m,w'=w.drewN m:=by
 have:=znh s p w hs;unfold RReadIs zng at this;rw[h] at this;exact this
theorem zd9 (s:ByteArray)(p:Int)(c n:Nat)(w:World)(hs:s.size<=2000000)(h:rd (bts s) p=some (c,n)) :
  Calls qab 150 #[jh s,je jd p] w fun e w'=>e=.returned (jk #[je jd (c:Int),je jd (p+(n:Int))])/\∃m,w'=w.drewN m:=by
 have:=znh s p w hs;unfold RReadIs zng at this;rw[h] at this;exact this
theorem zs2 (c:Int)(b:Bool)(w:World)(h0:0<=c) :
  Calls qab 114 #[je jl c,ji b] w fun e w'=>e=.returned (ji (letB c.toNat b))/\w'=w:=by
 by_cases hd:48<=c/\c<=57
 ·have hr:=qaa (show letB c.toNat b=!b by unfold letB;rw[if_pos U])
  obtain⟨h1,h2⟩:=hd;go_enter qeh,qd8;go_wp2;go_ret;exact⟨zap hr.out.symm,rfl⟩
 ·have hl:letB c.toNat b=decide (c.toNat=95∨(97<=c.toNat/\c.toNat<=122)∨(65<=c.toNat/\c.toNat<=90)):=by unfold letB;rw[if_neg U]
  by_cases h95:c=95
  ·subst h95
   have hr:=qaa (hl.trans ja:letB (95:Int).toNat b=true);clear hl hd;go_enter qeh,qd8;go_wp2;go_ret;exact⟨zap hr.out.symm,rfl⟩
  ·have hb:=zae h95
   have HL:=qaa hl;clear hl;by_cases h97:97<=c
   ·have n1:¬c<=57:=U
    have n2:48<=c:=U
    have n3:65<=c:=U
    have n4:¬c<=90:=U
    by_cases h122:c<=122
    ·have hr:=qaa (HL.out.trans (decide_eq_true U):letB c.toNat b=true)
     clear hd;go_enter qeh,qd8;go_wp2;go_ret;exact⟨zap hr.out.symm,rfl⟩
    ·have hr:=qaa (HL.out.trans (decide_eq_false U):letB c.toNat b=false)
     clear hd;go_enter qeh,qd8;go_wp2;go_ret;exact⟨zap hr.out.symm,rfl⟩
   ·by_cases h65:65<=c
    ·have n1:¬c<=57:=U
     have n2:48<=c:=U
     by_cases h90:c<=90
     ·have hr:=qaa (HL.out.trans (decide_eq_true U):letB c.toNat b=true)
      clear hd;go_enter qeh,qd8;go_wp2;go_ret;exact⟨zap hr.out.symm,rfl⟩
     ·have hr:=qaa (HL.out.trans (decide_eq_false U):letB c.toNat b=false)
      clear hd;go_enter qeh,qd8;go_wp2;go_ret;exact⟨zap hr.out.symm,rfl⟩
    ·have hr:=qaa (HL.out.trans (decide_eq_false U):letB c.toNat b=false)
     by_cases h48:48<=c
     ·have n1:¬c<=57:=U
      clear hd;go_enter qeh,qd8;go_wp2;go_ret;exact⟨zap hr.out.symm,rfl⟩
     ·clear hd
      go_enter qeh,qd8;go_wp2;go_ret;exact⟨zap hr.out.symm,rfl⟩
theorem zea (c:Nat)(b r:Bool)(w:World)(h:letB c b=r) :
  Calls qab 114 #[je jl (c:Int),ji b] w fun e w'=>e=.returned (ji r)/\w'=w:=by
 subst h;exact zs2 (c:Int) b w U
def SkipIs (o:Nat × Bool)(p:Nat)(w:World)(e:Ending)(w':World):Prop:=e=.returned (jk #[je jd ((p+o.1:Nat):Int),ji o.2])/\w'=w
theorem SkipIs.mk {o:Nat × Bool}{b:Bool}(h1:x=((p+o.1:Nat):Int))(h2:b=o.2):SkipIs o p w (.returned (jk #[je jd x,ji b])) w:=by
 subst h1 h2;exact⟨rfl,rfl⟩
theorem zni (s:ByteArray)(p:Nat)(w:World)(hs:s.size<=2000000)(hp:p<=s.size) :
  Calls qab 148 #[jh s,je jd (p:Int)] w (SkipIs (skipL ((bts s).drop p)) p w):=by
 obtain⟨o,hx⟩:∃o,skipL ((bts s).drop p)=o:=⟨_,rfl⟩;rw[hx];have HX:=qaa hx;clear hx;go_enter Tryz.func148,Tryz.ntmps148;go_wp2
 go_loop [1] (fun c=>∃k:Nat,k<=s.size/\c=je jd k/\k+(skipL ((bts s).drop k)).1=p+o.1/\(skipL ((bts s).drop k)).2=o.2) (fun c=>s.size-(intOf c).toNat)
 case atStart=>exact⟨p,hp,rfl,by rw[HX.out],by rw[HX.out]⟩
 case round=>
  obtain⟨k,hk,rfl,h1,h2⟩:=hrel;have H1:=qaa h1;have H2:=qaa h2;clear h1 h2;by_cases hlt:k<s.size
  ·have hd:=zas s k hlt
   by_cases hsp:s[k].toNat=32∨s[k].toNat=9∨s[k].toNat=10∨s[k].toNat=13
   ·have hq:=zbf (r:=(bts s).drop (k+1)) hsp
    rw[<-hd] at hq;have HQ:=qaa hq;clear hd hq;rcases hsp with h|h|h|h
    all_goals
     go_wp2
     go_round
     case rel=>exact⟨k+1,U,by go_num,by have:=H1.out;rw[HQ.out] at this;show k+1+_=_;omega,by have:=H2.out;rw[HQ.out] at this;exact this⟩
     case measure=>simp[intOf];omega
   ·have e1:=zav (d:=s[k].toNat) (k:=32) U
    have e2:=zav (d:=s[k].toNat) (k:=9) U;have e3:=zav (d:=s[k].toNat) (k:=10) U;have e4:=zav (d:=s[k].toNat) (k:=13) U;by_cases h35:s[k].toNat=35
    ·rw[h35] at hd
     have HD:=qaa hd;clear hd hsp;go_wp2
     go_loop [6] (fun c=>∃j:Nat,k<=j/\j<=s.size/\c=je jd j/\comL ((bts s).drop k)=(comL ((bts s).drop j)).map (· + (j-k))) (fun c=>s.size-(intOf c).toNat)
     case atStart=>exact⟨k,qac _,hk,rfl,jc⟩
     case round=>
      obtain⟨j,hj1,hj,rfl,hc⟩:=hrel;have HC:=qaa hc;clear hc;by_cases hltj:j<s.size
      ·have hdj:=zas s j hltj
       by_cases hnl:s[j].toNat=10∨s[j].toNat=13
       ·have hcj:=zek (r:=(bts s).drop (j+1)) hnl
        rw[<-hdj] at hcj;have hck:comL ((bts s).drop k)=some (j-k):=by rw[HC.out,hcj];simp
        rw[HD.out,zb7 ja] at hck;obtain⟨m,hm,hmj⟩:=Option.map_eq_some_iff.1 hck;have hq:=zd3 hm;rw[<-HD.out,qb1] at hq;have hjm:k+1+m=j:=U
        rw[hjm] at hq;have HQ:=qaa hq;have HM:Hid (m+1=j-k):=qaa hmj;have hkj:k<j:=U
        have ej:((j:Int) == (s.size:Int))=false:=by rw[beq_eq_false_iff_ne];omega
        clear hdj hcj hck hm hq hjm hmj;rcases hnl with h|h
        all_goals
         go_wp2
         go_round
         case rel=>exact⟨j,U,rfl,by have h3:=H1.out;have h4:=HM.out;rw[HQ.out] at h3;have h5:k+((skipL (List.drop j (bts s))).1+(m+1))=p+o.1:=h3;omega,by have:=H2.out;rw[HQ.out] at this;exact this⟩
         case measure=>simp[intOf];omega
       ·have hcj:=zb7 (r:=(bts s).drop (j+1)) hnl
        rw[<-hdj] at hcj;have hck:comL ((bts s).drop k)=(comL ((bts s).drop (j+1))).map (· + (j+1-k)):=by
         rw[HC.out,hcj,Option.map_map];refine congrArg (fun f=>Option.map f _) (funext fun x=>?_);show x+1+(j-k)=x+(j+1-k);omega
        have HK:=qaa hck;have f1:((s[j].toNat:Int) != 10)=true:=by rw[bne_iff_ne];omega
        have f2:((s[j].toNat:Int) != 13)=true:=by rw[bne_iff_ne];omega
        clear hdj hcj hck hnl;go_wp2
        go_round
        case rel=>exact⟨j+1,U,U,by go_num,HK.out⟩
        case measure=>simp[intOf];omega
      ·have hck:comL ((bts s).drop k)=none:=by
        rw[HC.out,qay (by rw[zaj];omega)];rfl
       rw[HD.out,zb7 ja] at hck;have hm:comL ((bts s).drop (k+1))=none:=by
        cases h:comL ((bts s).drop (k+1)) with
        |none=>rfl
        |some m=>rw[h] at hck;cases hck
       have hq:=zew hm;rw[<-HD.out] at hq;have hkn:(k:Int)=((p+o.1:Nat):Int):=by have:=H1.out;rw[hq] at this;exact congrArg _ this
       have hbt:false=o.2:=by have:=H2.out;rw[hq] at this;exact this
       have HK:=qaa hkn;have HT:=qaa hbt;have ej:((j:Int) == (s.size:Int))=true:=by rw[beq_iff_eq];omega
       clear hck hm hq hkn hbt;go_wp2
       go_ret2
       exact SkipIs.mk HK.out HT.out
    ·have hq:=zbg (r:=(bts s).drop (k+1)) hsp h35
     rw[<-hd] at hq;have hkn:(k:Int)=((p+o.1:Nat):Int):=by have:=H1.out;rw[hq] at this;exact congrArg _ this
     have hbt:true=o.2:=by have:=H2.out;rw[hq] at this;exact this
     have e5:((s[k].toNat:Int) != 35)=true:=by rw[bne_iff_ne];omega
     have HK:=qaa hkn;have HT:=qaa hbt;clear hd hq hsp hkn hbt;go_wp2
     go_ret2
     exact SkipIs.mk HK.out HT.out
  ·have hq:skipL ((bts s).drop k)=(0,true):=by rw[qay (by rw[zaj];omega)];exact zc5
   have hkn:(k:Int)=((p+o.1:Nat):Int):=by have:=H1.out;rw[hq] at this;exact congrArg _ this
   have hbt:true=o.2:=by have:=H2.out;rw[hq] at this;exact this
   have HK:=qaa hkn;have HT:=qaa hbt;clear hq hkn hbt;go_wp2
   go_ret2
   exact SkipIs.mk HK.out HT.out
theorem zvt (s:ByteArray)(w:World)(hs:s.size<=2000000) :
  Calls qab 81 #[jh s] w fun e w'=>e=.returned (ji (nameB (bts s)))/\w'=w:=by
 by_cases h0:0<s.size
 ·have hE:=zke h0
  have hne:nameB (bts s)=allF true (bts s):=by unfold nameB;rw[zqk s h0];rfl
  have HN:=qaa hne;clear hne;go_enter Tryz.func81,Tryz.ntmps81;go_wp2
  go_loop [3] (fun c=>∃k:Nat,k<=s.size/\c=je jd k/\nameB (bts s)=allF ((k:Int) == 0) ((bts s).drop k)) (fun c=>s.size-(intOf c).toNat)
  case atStart=>exact⟨0,qaj _,rfl,HN.out⟩
  case round=>
   obtain⟨k,hk,rfl,hr⟩:=hrel;have HR:=qaa hr;clear hr;by_cases hlt:k<s.size
   ·have hd:=zas s k hlt
    cases hl:letB s[k].toNat ((k:Int) == 0)
    ·have hq:=qaa (show nameB (bts s)=false by rw[HR.out,hd,zoy hl])
     have HL:=qaa hl;clear hl hd
     go_wp2_with (go_at_call 114;refine(zea _ _ false _ HL.out).mono ?_;rintro e w' ⟨rfl,hw⟩;obtain rfl:=hw.symm;clear hw)
     go_ret;exact⟨zap hq.out.symm,rfl⟩
    ·have hq:nameB (bts s)=allF false ((bts s).drop (k+1)):=by rw[HR.out,hd,zfe hl]
     have hz:(((k+1:Nat):Int) == 0)=false:=by rw[beq_eq_false_iff_ne];omega
     have HQ:=qaa (show nameB (bts s)=allF (((k+1:Nat):Int) == 0) ((bts s).drop (k+1)) by rw[hz];exact hq);have HL:=qaa hl;clear hl hd hq hz
     go_wp2_with (go_at_call 114;refine(zea _ _ true _ HL.out).mono ?_;rintro e w' ⟨rfl,hw⟩;obtain rfl:=hw.symm;clear hw)
     go_round
     case rel=>exact⟨k+1,U,by go_num,HQ.out⟩
     case measure=>simp[intOf];omega
   ·have hq:=qaa (show nameB (bts s)=true by rw[HR.out,qay (by rw[zaj];omega)];rfl)
    go_wp2;go_ret;exact⟨zap hq.out.symm,rfl⟩
 ·have hE:=ziv h0
  have hz:s.size=0:=U
  have hne:=qaa (show nameB (bts s)=false by rw[List.eq_nil_of_length_eq_zero (l:=bts s) (by rw[zaj];exact hz)];rfl);have h1:(s.size:Int)=0:=U
  clear h0 hz;go_enter Tryz.func81,Tryz.ntmps81;go_wp2;refine wp_loop_rounds 1 ?_;rw[rounds_succ];go_wp2;go_ret;exact⟨zap hne.out.symm,rfl⟩
def setV (rs:List (Nat × Nat)):Value:=.agg #[je jg (setW (inRs rs) 0),je jg (setW (inRs rs) 1),je jg (setW (inRs rs) 2),je jg (setW (inRs rs) 3)]
def ClsIs (o:Option (List (Nat × Nat) × Nat))(p:Nat)(w:World)(e:Ending)(w':World):Prop:=
 match o with
 |none=>e=.returned (jk #[.agg #[je jg 0,je jg 0,je jg 0,je jg 0],je jd (-1)])/\Below w.heap.size w w'
 |some (rs,m)=>e=.returned (jk #[setV rs,je jd ((p+m:Nat):Int)])/\Below w.heap.size w w'
theorem ClsIs.no {o:Option (List (Nat × Nat) × Nat)}(h:o=none)(hb:Below w.heap.size w w') :
  ClsIs o p w (.returned (jk #[.agg #[je jg 0,je jg 0,je jg 0,je jg 0],je jd (-1)])) w':=by
 subst h;exact⟨rfl,hb⟩
theorem ClsIs.yes {o:Option (List (Nat × Nat) × Nat)}{rs:List (Nat × Nat)}(h:o=some (rs,m))(hx:x=((p+m:Nat):Int))(hb:Below w.heap.size w w') :
  ClsIs o p w (.returned (jk #[.agg #[je jg (setW (inRs rs) 0),je jg (setW (inRs rs) 1),je jg (setW (inRs rs) 2),je jg (setW (inRs rs) 3)],je jd x])) w':=by
 subst h hx;exact⟨rfl,hb⟩
theorem BAt.drewN {f:Nat->Bool}{B n:Nat}(h:BAt f B w):BAt f B (w.drewN n):=fun j hj=>by simpa using h j hj
theorem BAt.congr {f g:Nat->Bool}{B:Nat}(h:BAt f B w)(e:∀i,i<256->f i=g i):BAt g B w:=fun j hj=>by rw[<-e j hj];exact h j hj
def upR (rs:List (Nat × Nat))(lo c:Nat):Nat->Bool:=fun i=>inRs rs i || decide (lo<=i/\i<c)
theorem zlw (rs:List (Nat × Nat))(lo c:Nat)(h:lo<=c)(i:Nat):ins (upR rs lo c) c i=upR rs lo (c+1) i:=by
 unfold ins upR;rw[Bool.or_assoc];congr 1;rw[qcd];simp;omega
theorem zlx (rs:List (Nat × Nat))(lo hi c:Nat)(h1:hi<c)(h2:lo=c∨c=hi+1)(i:Nat):upR rs lo c i=inRs (rs++[(lo,hi)]) i:=by
 rw[zmr];unfold upR;congr 1;rw[qcd];simp;omega
theorem zgj (rs:List (Nat × Nat))(lo i:Nat):inRs rs i=upR rs lo lo i:=by
 unfold upR;have:decide (lo<=i/\i<lo)=false:=by rw[decide_eq_false_iff_not];omega
 rw[this,Bool.or_false]
theorem zkn (s:ByteArray)(p:Nat)(w:World)(hs:s.size<=1050000)(hp:p<=s.size) :
  Calls qab 149 #[jh s,je jd (p:Int)] w (ClsIs (clsL ((bts s).drop p)) p w):=by
 have hmk:=mk256;have hs':s.size<=2000000:=U
 go_enter Tryz.func149,Tryz.ntmps149;go_wp2
 go_loopw [1] (fun c wr=>∃(k:Nat) (rs:List (Nat × Nat)),p<=k/\k<=s.size/\c=je jd k/\BAt (inRs rs) (w.heap.size+1) wr/\Below (w.heap.size+1) (w.alloc (.cells #[je jg 0,je jg 0,je jg 0,je jg 0] 41)) wr/\w.heap.size+1<wr.heap.size/\clsL ((bts s).drop p)=(clsL ((bts s).drop k)).map fun x=>(rs++x.1,(k-p)+x.2)) (fun c _=>s.size-(intOf c).toNat)
 case atStart=>
  refine⟨p,[],qac _,hp,rfl,?_,(Below.refl _ _).alloc jc _,jc,jc⟩;intro j hj;have hf:falses[j]?=some (ji false):=by unfold falses;simp[hj]
  rw[World.cell?_alloc_at _ _ _ _ jc,hf,World.frozen?_alloc_at _ _ _ _ jc];exact⟨rfl,rfl⟩
 case round=>
  obtain⟨k,rs,hpk,hk,rfl,hB,hb,hz,hc⟩:=hrel;have HC:=qaa hc;clear hc;have h4:=(Four.new w (je jg 0) (je jg 0) (je jg 0) (je jg 0) 41).below hb (Nat.lt_succ_self _);have hbw:Below w.heap.size w wr:=((Below.refl _ w).alloc (qac _) _).trans (hb.mono U);by_cases hlt:k<s.size
  ·have hd:=zas s k hlt
   by_cases h93:s[k].toNat=93
   ·have hr:RowAt wr (.slice (some ⟨w.heap.size+1,0,none⟩) 256 256) ((List.range 256).map fun i=>ji (inRs rs i)):=
     ⟨_,256,by rw[List.length_map,List.length_range],.inr ⟨_,_,rfl,fun i c hc=>by
      rw[List.getElem?_map] at hc;by_cases hi:i<256
      ·rw[List.getElem?_range hi] at hc;cases hc;simpa using (hB i hi).1
      ·rw[List.getElem?_eq_none (by simp;omega)] at hc;cases hc⟩⟩
    have h:=qaa (zo2 (inRs rs) _ wr hr);have hq:clsL ((bts s).drop p)=some (rs,(k-p)+1):=by rw[HC.out,hd,h93,zh6];simp
    have HQ:=qaa hq;clear hd hB hr hq
    go_wp2_with fail
    refine h.out.mono ?_;rintro e w1 ⟨rfl,hb1⟩;obtain⟨⟨d0,d1,d2,d3⟩,hfr⟩:=h4.below hb1 U;clear h h4;go_wp2;refine bodyPost_ret (v:=jk #[.agg #[je jg (setW (inRs rs) 0),je jg (setW (inRs rs) 1),je jg (setW (inRs rs) 2),je jg (setW (inRs rs) 3)],je jd ((k:Int)+1)]) (by simp[results,Tryz.results149,go_sem,d0,d1,d2,d3]) rfl (ClsIs.yes HQ.out U ?_);exact((((hbw.trans (hb1.mono hbw.size)).setCell (qac _) _).setCell (qac _) _).setCell (qac _) _).setCell (qac _) _
   ·have b93:=zav (d:=s[k].toNat) (k:=93) U
    cases hr:rd (bts s) (k:Int) with
    |none=>
     have hq:clsL ((bts s).drop p)=none:=by
      rw[zcn,hd] at hr;rw[HC.out,hd,zf8 hr h93];rfl
     have HQ:=qaa hq;have HD:=qaa hr;obtain⟨⟨d0,d1,d2,d3⟩,hfr⟩:=h4;clear hd hr hq hB
     go_wp2_with (go_at_call 150;(with_reducible refine(zlv s (k:Int) _ hs' HD.out).mono ?_);rintro e w' ⟨rfl,m,rfl⟩)
     refine bodyPost_ret (v:=jk #[.agg #[je jg 0,je jg 0,je jg 0,je jg 0],je jd (-1)]) (by simp[results,Tryz.results149,go_sem,d0,d1,d2,d3]) rfl (ClsIs.no HQ.out ?_);exact((((zak hbw).setCell (qac _) _).setCell (qac _) _).setCell (qac _) _).setCell (qac _) _
    |some x=>
     obtain⟨lo,n⟩:=x;obtain⟨p0,p1,p2,p3⟩:=zdz hr;have HD:=qaa hr;have q0:¬(k:Int)+(n:Int)<0:=U
     have hmod:(lo:Int)%256=lo:=U
     have hr1:rdl (s[k].toNat::(bts s).drop (k+1))=some (lo,n):=by rw[zcn,hd] at hr;exact hr
     clear hr h4 hbw;have hdn:(s[k].toNat::(bts s).drop (k+1)).drop n=(bts s).drop (k+n):=by rw[<-hd,qb1]
     by_cases hk2:k+n<s.size
     ·have hd2:=zas s (k+n) hk2
      have g2:(k:Int)+(n:Int)<(s.size:Int):=U
      have t2:((k:Int)+(n:Int)).toNat=k+n:=U
      by_cases h45:s[k+n].toNat=45
      ·rw[h45] at hd2
       cases hr2:rd (bts s) ((k:Int)+(n:Int)+1) with
       |none=>
        have hrt:rdl ((bts s).drop (k+n+1))=none:=by
         rw[show(k:Int)+(n:Int)+1=((k+n+1:Nat):Int) by omega,zcn] at hr2;exact hr2
        have hq:clsL ((bts s).drop p)=(clsL ((bts s).drop (k+n))).map fun x=>((rs++[(lo,lo)])++x.1,(k+n-p)+x.2):=by
         rw[HC.out,hd,zdw hr1 h93 (fun t ht=>by rw[hdn,hd2] at ht;rw[<-(qdf ht).2];exact hrt),hdn,zga];rw[show k-p+n=k+n-p by omega]
        have HQ:=qaa hq;have HE:=qaa hr2;clear hd hd2 hdn hr1 hr2 hrt hq
        go_wp2_with (first
         |(go_at_call 150;(with_reducible refine(zd9 s (k:Int) lo n _ hs' HD.out).mono ?_);rintro e w' ⟨rfl,m1,rfl⟩)
         |(go_at_call 150;(with_reducible refine(zlv s ((k:Int)+(n:Int)+1) _ hs' HE.out).mono ?_);rintro e w' ⟨rfl,m2,rfl⟩))
        go_loopw [12] (fun c wr2=>∃j:Nat,lo<=j/\(lo=j∨j<=lo+1)/\c=je jd j/\BAt (upR rs lo j) (w.heap.size+1) wr2/\Below (w.heap.size+1) (w.alloc (.cells #[je jg 0,je jg 0,je jg 0,je jg 0] 41)) wr2/\w.heap.size+1<wr2.heap.size) (fun c _=>lo+1-(intOf c).toNat)
        case atStart=>exact⟨lo,qac _,Or.inl rfl,by first|rfl|rw[hmod],hB.drewN.congr (fun i _=>zgj rs lo i),zak hb,by simpa using hz⟩
        case round=>
         obtain⟨j,hj1,hj2,rfl,hB2,hb2,hz2⟩:=hrel;by_cases hjl:j<=lo
         ·have hc:=(hB2 j U).1
          have hf:=(hB2 j U).2;have hjl':(j:Int)<=(lo:Int):=U
          have j256:(j:Int)<256:=U
          go_wp2;go_roundw
          case rel=>exact⟨j+1,U,U,by go_num,hB2.put.congr (fun i _=>zlw rs lo j hj1 i),hb2.setCell (qac _) _,by simpa using hz2⟩
          case measure=>simp[intOf];omega
         ·have hjl':¬(j:Int)<=(lo:Int):=U
          have hB3:=hB2.congr (fun i _=>zlx rs lo lo j U U i);clear hB2;go_wp2;go_roundw
          case rel=>exact⟨k+n,rs++[(lo,lo)],U,U,by go_num,hB3,hb2,hz2,HQ.out⟩
          case measure=>simp[intOf];omega
       |some y=>
        obtain⟨hi,m⟩:=y;obtain⟨r0,r1,r2,r3⟩:=zdz hr2;have hrt:rdl ((bts s).drop (k+n+1))=some (hi,m):=by
         rw[show(k:Int)+(n:Int)+1=((k+n+1:Nat):Int) by omega,zcn] at hr2;exact hr2
        have hq:clsL ((bts s).drop p)=(clsL ((bts s).drop (k+(n+1+m)))).map fun x=>((rs++[(lo,hi)])++x.1,(k+(n+1+m)-p)+x.2):=by
         rw[HC.out,hd,zd4 hr1 h93 (hdn.trans hd2) hrt,<-hd,qb1,zga];rw[show k-p+(n+1+m)=k+(n+1+m)-p by omega]
        have HQ:=qaa hq;have HE:=qaa hr2;have hmod2:(hi:Int)%256=hi:=U
        have q2:0<=(k:Int)+(n:Int)+1+(m:Int):=U
        clear hd hd2 hdn hr1 hr2 hrt hq
        go_wp2_with (first
         |(go_at_call 150;(with_reducible refine(zd9 s (k:Int) lo n _ hs' HD.out).mono ?_);rintro e w' ⟨rfl,m1,rfl⟩)
         |(go_at_call 150;(with_reducible refine(zd9 s ((k:Int)+(n:Int)+1) hi m _ hs' HE.out).mono ?_);rintro e w' ⟨rfl,m2,rfl⟩))
        go_loopw [12] (fun c wr2=>∃j:Nat,lo<=j/\(lo=j∨j<=hi+1)/\c=je jd j/\BAt (upR rs lo j) (w.heap.size+1) wr2/\Below (w.heap.size+1) (w.alloc (.cells #[je jg 0,je jg 0,je jg 0,je jg 0] 41)) wr2/\w.heap.size+1<wr2.heap.size) (fun c _=>hi+1-(intOf c).toNat)
        case atStart=>exact⟨lo,qac _,Or.inl rfl,by first|rfl|rw[hmod],hB.drewN.congr (fun i _=>zgj rs lo i),zak hb,by simpa using hz⟩
        case round=>
         obtain⟨j,hj1,hj2,rfl,hB2,hb2,hz2⟩:=hrel;by_cases hjl:j<=hi
         ·have hc:=(hB2 j U).1
          have hf:=(hB2 j U).2;have hjl':(j:Int)<=(hi:Int):=U
          have j256:(j:Int)<256:=U
          go_wp2;go_roundw
          case rel=>exact⟨j+1,U,U,by go_num,hB2.put.congr (fun i _=>zlw rs lo j hj1 i),hb2.setCell (qac _) _,by simpa using hz2⟩
          case measure=>simp[intOf];omega
         ·have hjl':¬(j:Int)<=(hi:Int):=U
          have hB3:=hB2.congr (fun i _=>zlx rs lo hi j U U i);clear hB2;go_wp2;go_roundw
          case rel=>exact⟨k+(n+1+m),rs++[(lo,hi)],U,U,by go_num,hB3,hb2,hz2,HQ.out⟩
          case measure=>simp[intOf];omega
      ·have hq:clsL ((bts s).drop p)=(clsL ((bts s).drop (k+n))).map fun x=>((rs++[(lo,lo)])++x.1,(k+n-p)+x.2):=by
        rw[HC.out,hd,zdw hr1 h93 (fun t ht=>by rw[hdn,hd2] at ht;exact absurd (qdf ht).1 h45),hdn,zga];rw[show k-p+n=k+n-p by omega]
       have HQ:=qaa hq;have b45:=zav (d:=s[k+n].toNat) (k:=45) U;clear hd hd2 hdn hr1 hq
       go_wp2_with (go_at_call 150;(with_reducible refine(zd9 s (k:Int) lo n _ hs' HD.out).mono ?_);rintro e w' ⟨rfl,m1,rfl⟩)
       go_loopw [12] (fun c wr2=>∃j:Nat,lo<=j/\(lo=j∨j<=lo+1)/\c=je jd j/\BAt (upR rs lo j) (w.heap.size+1) wr2/\Below (w.heap.size+1) (w.alloc (.cells #[je jg 0,je jg 0,je jg 0,je jg 0] 41)) wr2/\w.heap.size+1<wr2.heap.size) (fun c _=>lo+1-(intOf c).toNat)
       case atStart=>exact⟨lo,qac _,Or.inl rfl,by first|rfl|rw[hmod],hB.drewN.congr (fun i _=>zgj rs lo i),zak hb,by simpa using hz⟩
       case round=>
        obtain⟨j,hj1,hj2,rfl,hB2,hb2,hz2⟩:=hrel;by_cases hjl:j<=lo
        ·have hc:=(hB2 j U).1
         have hf:=(hB2 j U).2;have hjl':(j:Int)<=(lo:Int):=U
         have j256:(j:Int)<256:=U
         go_wp2;go_roundw
         case rel=>exact⟨j+1,U,U,by go_num,hB2.put.congr (fun i _=>zlw rs lo j hj1 i),hb2.setCell (qac _) _,by simpa using hz2⟩
         case measure=>simp[intOf];omega
        ·have hjl':¬(j:Int)<=(lo:Int):=U
         have hB3:=hB2.congr (fun i _=>zlx rs lo lo j U U i);clear hB2;go_wp2;go_roundw
         case rel=>exact⟨k+n,rs++[(lo,lo)],U,U,by go_num,hB3,hb2,hz2,HQ.out⟩
         case measure=>simp[intOf];omega
     ·have hq:clsL ((bts s).drop p)=(clsL ((bts s).drop (k+n))).map fun x=>((rs++[(lo,lo)])++x.1,(k+n-p)+x.2):=by
       rw[HC.out,hd,zdw hr1 h93 (fun t ht=>by rw[hdn,qay (by rw[zaj];omega)] at ht;cases ht),hdn,zga];rw[show k-p+n=k+n-p by omega]
      have HQ:=qaa hq;have g2:¬(k:Int)+(n:Int)<(s.size:Int):=U
      clear hd hdn hr1 hq
      go_wp2_with (go_at_call 150;(with_reducible refine(zd9 s (k:Int) lo n _ hs' HD.out).mono ?_);rintro e w' ⟨rfl,m1,rfl⟩)
      go_loopw [12] (fun c wr2=>∃j:Nat,lo<=j/\(lo=j∨j<=lo+1)/\c=je jd j/\BAt (upR rs lo j) (w.heap.size+1) wr2/\Below (w.heap.size+1) (w.alloc (.cells #[je jg 0,je jg 0,je jg 0,je jg 0] 41)) wr2/\w.heap.size+1<wr2.heap.size) (fun c _=>lo+1-(intOf c).toNat)
      case atStart=>exact⟨lo,qac _,Or.inl rfl,by first|rfl|rw[hmod],hB.drewN.congr (fun i _=>zgj rs lo i),zak hb,by simpa using hz⟩
      case round=>
       obtain⟨j,hj1,hj2,rfl,hB2,hb2,hz2⟩:=hrel;by_cases hjl:j<=lo
       ·have hc:=(hB2 j U).1
        have hf:=(hB2 j U).2;have hjl':(j:Int)<=(lo:Int):=U
        have j256:(j:Int)<256:=U
        go_wp2;go_roundw
        case rel=>exact⟨j+1,U,U,by go_num,hB2.put.congr (fun i _=>zlw rs lo j hj1 i),hb2.setCell (qac _) _,by simpa using hz2⟩
        case measure=>simp[intOf];omega
       ·have hjl':¬(j:Int)<=(lo:Int):=U
        have hB3:=hB2.congr (fun i _=>zlx rs lo lo j U U i);clear hB2;go_wp2;go_roundw
        case rel=>exact⟨k+n,rs++[(lo,lo)],U,U,by go_num,hB3,hb2,hz2,HQ.out⟩
        case measure=>simp[intOf];omega
  ·have hq:clsL ((bts s).drop p)=none:=by rw[HC.out,qay (by rw[zaj];omega),zh5];rfl
   have HQ:=qaa hq;obtain⟨⟨d0,d1,d2,d3⟩,hfr⟩:=h4;have g1:(s.size:Int)<=(k:Int):=U
   clear hq hB;go_wp2;refine bodyPost_ret (v:=jk #[.agg #[je jg 0,je jg 0,je jg 0,je jg 0],je jd (-1)]) (by simp[results,Tryz.results149,go_sem,d0,d1,d2,d3]) rfl (ClsIs.no HQ.out ?_);exact((((hbw).setCell (qac _) _).setCell (qac _) _).setCell (qac _) _).setCell (qac _) _
