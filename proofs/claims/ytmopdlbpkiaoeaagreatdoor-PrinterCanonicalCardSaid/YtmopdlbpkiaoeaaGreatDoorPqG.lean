/- The contracts of the program's readers: number, escaped, Read. The contract of the program's Read: the byte of the character at an index, the index after it, an -/
import Derived.Test.YtmopdlbpkiaoeaaGreatDoorProg
import Derived.WalkKit
import Derived.ProofKit
import Derived.Outline
import Derived.WalkMore
import Derived.Handy
import Derived.Lib.Hide
import Derived.Test.YtmopdlbpkiaoeaaGreatDoorPqB
set_option maxRecDepth 100000
set_option maxHeartbeats 1000000
open Go.IntKind renaming i64->jd, u8->jl
open Go.Value renaming int->je, string->jh, bool->ji, tuple->jk
namespace Go.Proofs.YtmopdlbpkiaoeaaGreatDoor
open _root_.ByteArray renaming size_extract->qes
open Go.Lib renaming hid->qaa
open Go.Proofs.Tryz renaming func126->qfy, func145->qez, ntmps126->qfq, ntmps145->qeo, prog->qab, results126->qfb
open List renaming length_drop->qa2, take_of_length_le->qa4
open Nat renaming le_refl->qac
open Go.RowKit
variable {x y:Int}{c n:Nat}{w:World}
theorem zpp {c n:Nat}{x:Nat × Nat}(h:x=(c,n)):Ending.returned (jk #[je jl (c:Int),je jd (n:Int)])=.returned (jk #[je jl (x.1:Int),je jd (x.2:Int)]):=by rw[h]
theorem zkp (s:ByteArray)(w:World)(h3:s.size<=3)(h1:s.size=3->∀h:0<s.size,s[0].toNat<=50) :
  Calls qab 156 #[jh s] w fun e w'=>e=.returned (jk #[je jl ((numF 0 0 (bts s)).1:Int),je jd ((numF 0 0 (bts s)).2:Int)])/\w'=w:=by
 have H1:=qaa h1;clear h1;go_enter Tryz.func156,Tryz.ntmps156;go_wp2
 go_step3
 go_wp2
 go_step3
 go_wp2
 go_loop [2,3] (fun c n=>∃k v:Nat,k<=s.size/\n=je jd k/\c=je jl v/\numF 0 0 (bts s)=numF v k ((bts s).drop k)/\(k=0->v=0)/\(k=1->v<=7/\(s.size=3->v<=2))/\(k=2->v<=63/\(s.size=3->v<=23))/\v<=255) (fun _ n=>s.size-(intOf n).toNat)
 case atStart=>exact⟨0,0,Nat.zero_le _,rfl,rfl,rfl,U,U,U,U⟩
 case round=>
  obtain⟨k,v,hk,rfl,rfl,hn,h0,h1,h2,hv⟩:=hrel;have HN:=qaa hn;clear hn;by_cases hlt:k<s.size
  ·have hd:=qaa (zas s k hlt)
   have hb:s[k].toNat<256:=s[k].toNat_lt;have hf:k=0->s.size=3->s[k].toNat<=50:=fun e h=>by subst e;exact H1.out h hlt
   by_cases hoct:48<=s[k].toNat/\s[k].toNat<=55
   ·have ho:=qaa ((zej _).2 hoct)
    obtain⟨ha,hb2⟩:=hoct;have ha':(48:Int)<=(s[k].toNat:Int):=U
    have hb':(s[k].toNat:Int)<=55:=U
    have m1:0<=(v:Int)*8:=U
    have m2:(v:Int)*8+s[k].toNat<=255:=U
    go_wp2
    go_round
    case rel=>
     refine⟨k+1,v*8+s[k].toNat-48,U,by go_num,by go_num,?_,U,?_,?_,U⟩
     ·rw[HN.out,hd.out,zco _ _ ho.out]
     ·intro e;obtain rfl:k=0:=U
      have:=h0 rfl;have:=hf rfl;omega
     ·intro e;obtain rfl:k=1:=U
      have:=h1 rfl;omega
    case measure=>simp[intOf];omega
   ·have ho:=qaa ((zub _).2 hoct)
    have hres:numF 0 0 (bts s)=(v,k):=by rw[HN.out,hd.out,zft _ _ ho.out]
    have HR:=qaa hres;clear hres;by_cases ha:48<=s[k].toNat
    ·have hb2:¬s[k].toNat<=55:=U
     have ha':(48:Int)<=(s[k].toNat:Int):=U
     have hb':¬(s[k].toNat:Int)<=55:=U
     go_wp2
     go_ret2
     exact⟨zpp HR.out,rfl⟩
    ·have ha':¬(48:Int)<=(s[k].toNat:Int):=U
     go_wp2
     go_ret2
     exact⟨zpp HR.out,rfl⟩
  ·have hres:numF 0 0 (bts s)=(v,k):=by rw[HN.out,List.drop_eq_nil_of_le (by rw[zaj];omega)];rfl
   have HR:=qaa hres;clear hres;go_wp2
   go_ret2
   exact⟨zpp HR.out,rfl⟩
def EscIs (s:ByteArray)(w:World)(e:Ending)(w':World):Prop:=e=.returned (jk #[je jl ((esc (bts s)).1:Int),je jd ((esc (bts s)).2:Int)])/\w'=w
theorem EscIs.mk {s:ByteArray}(h:esc (bts s)=(c,n))(hx:x=c)(hy:y=n):EscIs s w (.returned (jk #[je jl x,je jd y])) w:=by
 unfold EscIs;rw[h,hx,hy];exact⟨rfl,rfl⟩
theorem EscIs.mk2 {s:ByteArray}{p:Nat × Nat}(h:esc (bts s)=p)(hx:x=p.1)(hy:y=p.2):EscIs s w (.returned (jk #[je jl x,je jd y])) w:=by
 unfold EscIs;rw[h,hx,hy];exact⟨rfl,rfl⟩
theorem zre (s:ByteArray)(k:Nat)(h:k<=s.size):(s.extract 0 k).size=k:=by rw[qes];omega
theorem z38 (s:ByteArray)(k:Nat):bts (s.extract 0 k)=(bts s).take k:=by rw[zby];rfl
theorem zvw (s:ByteArray)(k:Nat)(w:World)(hk:k<=s.size)(h3:k<=3)(h1:k=3->∀h:0<s.size,s[0].toNat<=50) :
  Calls qab 156 #[jh (s.extract 0 k)] w fun e w'=>e=.returned (jk #[je jl ((numF 0 0 ((bts s).take k)).1:Int),je jd ((numF 0 0 ((bts s).take k)).2:Int)])/\w'=w:=by
 have h:=zkp (s.extract 0 k) w (by rw[zre s k hk];exact h3) (fun e h=>by
  rw[zre s k hk] at e h;have e2:(s.extract 0 k)[0]=s[0]:=by rw[ByteArray.getElem_extract]
  rw[e2];exact h1 e U)
 rw[z38] at h;exact h
theorem zvx (s:ByteArray)(k:Nat)(w:World)(hk:¬k<=s.size)(h3:k<=3) :
  Calls qab 156 #[jh s] w fun e w'=>e=.returned (jk #[je jl ((numF 0 0 ((bts s).take k)).1:Int),je jd ((numF 0 0 ((bts s).take k)).2:Int)])/\w'=w:=by
 have h:=zkp s w U (fun e _=>U);rw[<-qa4 (l:=bts s) (i:=k) (by rw[zaj];omega)] at h;exact h
theorem zpq (s:ByteArray)(w:World)(hs:s.size<=9223372036854775807) :
  Calls qab 145 #[jh s] w (EscIs s w):=by
 by_cases h0:0<s.size
 ·have hc:=qaa (zqk s h0)
  have hb:s[0].toNat<256:=s[0].toNat_lt;have hE:=zke h0;by_cases hx:s[0].toNat=110∨s[0].toNat=114∨s[0].toNat=116∨s[0].toNat=39∨s[0].toNat=34∨s[0].toNat=91∨s[0].toNat=93∨s[0].toNat=92
  ·rcases hx with h|h|h|h|h|h|h|h
   all_goals
    go_enter qez,qeo;go_wp2
    go_ret2
    exact EscIs.mk (by rw[hc.out,h,zb3];simp) rfl rfl
  ·have hx':s[0].toNat≠110/\s[0].toNat≠114/\s[0].toNat≠116/\¬(s[0].toNat=39∨s[0].toNat=34∨s[0].toNat=91∨s[0].toNat=93∨s[0].toNat=92):=U
   by_cases h3:s[0].toNat=48∨s[0].toNat=49∨s[0].toNat=50
   ·have he:esc (bts s)=numF 0 0 ((bts s).take 3):=by
     rw[hc.out,zb3,if_neg hx'.1,if_neg hx'.2.1,if_neg hx'.2.2.1,if_neg hx'.2.2.2,if_pos h3]
    have HE:=qaa he;clear he hx hx';have hl:Hid (∀h:0<s.size,s[0].toNat<=50):=qaa (fun _=>U);by_cases hz:3<=s.size
    ·rcases h3 with h|h|h
     all_goals
      go_enter qez,qeo
      go_wp2_with (go_at_call 156;refine(zvw s 3 _ hz (qac _) (fun _=>hl.out)).mono ?_;rintro e w' ⟨rfl,hw⟩;obtain rfl:=hw.symm;clear hw)
      go_ret2
      exact EscIs.mk2 HE.out rfl rfl
    ·have hz':(s.size:Int)<3:=U
     rcases h3 with h|h|h
     all_goals
      go_enter qez,qeo
      go_wp2_with (go_at_call 156;refine(zvx s 3 _ hz (qac _)).mono ?_;rintro e w' ⟨rfl,hw⟩;obtain rfl:=hw.symm;clear hw)
      go_ret2
      exact EscIs.mk2 HE.out rfl rfl
   ·by_cases h5:s[0].toNat=51∨s[0].toNat=52∨s[0].toNat=53∨s[0].toNat=54∨s[0].toNat=55
    ·have he:esc (bts s)=numF 0 0 ((bts s).take 2):=by
      rw[hc.out,zb3,if_neg hx'.1,if_neg hx'.2.1,if_neg hx'.2.2.1,if_neg hx'.2.2.2,if_neg h3,if_pos h5]
     have HE:=qaa he;clear he hx hx' h3;by_cases hz:2<=s.size
     ·rcases h5 with h|h|h|h|h
      all_goals
       go_enter qez,qeo
       go_wp2_with (go_at_call 156;refine(zvw s 2 _ hz U (fun e=>absurd e ja)).mono ?_;rintro e w' ⟨rfl,hw⟩;obtain rfl:=hw.symm;clear hw)
       go_ret2
       exact EscIs.mk2 HE.out rfl rfl
     ·have hz':(s.size:Int)<2:=U
      rcases h5 with h|h|h|h|h
      all_goals
       go_enter qez,qeo
       go_wp2_with (go_at_call 156;refine(zvx s 2 _ hz U).mono ?_;rintro e w' ⟨rfl,hw⟩;obtain rfl:=hw.symm;clear hw)
       go_ret2
       exact EscIs.mk2 HE.out rfl rfl
    ·have he:esc (bts s)=(0,0):=by
      rw[hc.out,zb3,if_neg hx'.1,if_neg hx'.2.1,if_neg hx'.2.2.1,if_neg hx'.2.2.2,if_neg h3,if_neg h5]
     have HE:=qaa he;clear he hx';have b1:=zav (d:=s[0].toNat) (k:=110) U;have b2:=zav (d:=s[0].toNat) (k:=114) U;have b3:=zav (d:=s[0].toNat) (k:=116) U;have b4:=zav (d:=s[0].toNat) (k:=39) U;have b5:=zav (d:=s[0].toNat) (k:=34) U;have b6:=zav (d:=s[0].toNat) (k:=91) U;have b7:=zav (d:=s[0].toNat) (k:=93) U;have b8:=zav (d:=s[0].toNat) (k:=92) U;have c1:=zav (d:=s[0].toNat) (k:=48) U;have c2:=zav (d:=s[0].toNat) (k:=49) U;have c3:=zav (d:=s[0].toNat) (k:=50) U;have c4:=zav (d:=s[0].toNat) (k:=51) U;have c5:=zav (d:=s[0].toNat) (k:=52) U;have c6:=zav (d:=s[0].toNat) (k:=53) U;have c7:=zav (d:=s[0].toNat) (k:=54) U;have c8:=zav (d:=s[0].toNat) (k:=55) U;clear hx h3 h5 hb;go_enter qez,qeo;go_wp2
     go_ret2
     exact EscIs.mk2 HE.out rfl rfl
 ·have hE:=ziv h0
  have he:esc (bts s)=(0,0):=by
   have:bts s=[]:=List.eq_nil_of_length_eq_zero (by rw[zaj];omega);rw[this];rfl
  have HE:=qaa he;clear he;go_enter qez,qeo;go_wp2
  go_ret2
  exact EscIs.mk2 HE.out rfl rfl
def readV (l:List Nat)(p:Int):Value:=
 match rd l p with
 |none=>jk #[je jl 0,je jd 0,ji false]
 |some (c,n)=>jk #[je jl (c:Int),je jd (p+(n:Int)),ji true]
def ReadIs (l:List Nat)(p:Int)(w:World)(e:Ending)(w':World):Prop:=e=.returned (readV l p)/\w'=w
theorem ReadIs.no {l:List Nat}{p:Int}(h:rd l p=none):ReadIs l p w (.returned (jk #[je jl 0,je jd 0,ji false])) w:=by
 unfold ReadIs readV;rw[h];exact⟨rfl,rfl⟩
theorem ReadIs.yes {l:List Nat}{p:Int}(h:rd l p=some (c,n))(hx:x=c)(hy:y=p+n):ReadIs l p w (.returned (jk #[je jl x,je jd y,ji true])) w:=by
 unfold ReadIs readV;rw[h,hx,hy];exact⟨rfl,rfl⟩
theorem zpr (s:ByteArray)(i:Nat):bts (s.extract i s.size)=(bts s).drop i:=by
 rw[zby,qa4 (by rw[qa2,zaj];exact qac _)]
theorem zps (s:ByteArray)(i:Nat)(w:World)(hs:s.size<=9223372036854775807) :
  Calls qab 145 #[jh (s.extract i s.size)] w fun e w'=>e=.returned (jk #[je jl ((esc ((bts s).drop i)).1:Int),je jd ((esc ((bts s).drop i)).2:Int)])/\w'=w:=by
 have h:=zpq (s.extract i s.size) w (by rw[qes];omega);unfold EscIs at h;rw[zpr] at h;exact h
theorem zrf (s:ByteArray)(p:Int)(w:World)(hs:s.size<=2000000) :
  Calls qab 126 #[jh s,je jd p] w (ReadIs (bts s) p w):=by
 by_cases hn:p<0
 ·have hr:=qaa (zt8 (bts s) p hn)
  go_enter qfy,qfq;go_wp2;exact bodyPost_ret (v:=jk #[je jl 0,je jd 0,ji false]) (by simp[results,qfb,go_sem]) rfl (ReadIs.no hr.out)
 ·obtain⟨k,rfl⟩:∃k:Nat,p=k:=⟨p.toNat,U⟩
  by_cases hk:k<s.size
  ·have hd:=zas s k hk
   by_cases h92:s[k].toNat=92
   ·have hr:rd (bts s) (k:Int)=if (esc ((bts s).drop (k+1))).2=0 then none else some ((esc ((bts s).drop (k+1))).1,1+(esc ((bts s).drop (k+1))).2):=by
     rw[zcn,hd,h92,zir]
    have hl:=zua ((bts s).drop (k+1));rw[qa2,zaj] at hl;have hE:=fun w=>zps s (k+1) w U
    generalize he:esc ((bts s).drop (k+1))=x at hr hl hE;obtain⟨c,n⟩:=x;clear he hd;have HE:=qaa hE;clear hE;by_cases h0:n=0
    ·subst h0
     rw[if_pos rfl] at hr;have HR:=qaa hr;clear hr;go_enter qfy,qfq
     go_wp2_with (go_at_call 145;refine(HE.out _).mono ?_;rintro e w' ⟨rfl,hw⟩;obtain rfl:=hw.symm;clear hw)
     exact bodyPost_ret (v:=jk #[je jl 0,je jd 0,ji false]) (by simp[results,qfb,go_sem]) rfl (ReadIs.no HR.out)
    ·rw[if_neg h0] at hr
     have HR:=qaa hr;clear hr;have h0':((n:Int) == 0)=false:=by rw[beq_eq_false_iff_ne];omega
     go_enter qfy,qfq
     go_wp2_with (go_at_call 145;refine(HE.out _).mono ?_;rintro e w' ⟨rfl,hw⟩;obtain rfl:=hw.symm;clear hw)
     exact bodyPost_ret (v:=jk #[je jl (c:Int),je jd ((k:Int)+1+(n:Int)),ji true]) (by simp[results,qfb,go_sem]) rfl (ReadIs.yes HR.out rfl U)
   ·have hr:=qaa (show rd (bts s) (k:Int)=some (s[k].toNat,1) by rw[zcn,hd,zdi _ _ h92])
    have hb:=zav (d:=s[k].toNat) (k:=92) U;clear hd;go_enter qfy,qfq;go_wp2;exact bodyPost_ret (v:=jk #[je jl (s[k].toNat:Int),je jd ((k:Int)+1),ji true]) (by simp[results,qfb,go_sem]) rfl (ReadIs.yes hr.out rfl U)
  ·have hr:=qaa (zt9 (bts s) k (by rw[zaj];omega))
   go_enter qfy,qfq;go_wp2;exact bodyPost_ret (v:=jk #[je jl 0,je jd 0,ji false]) (by simp[results,qfb,go_sem]) rfl (ReadIs.no hr.out)
theorem zly (s:ByteArray)(p:Int)(w:World)(hs:s.size<=2000000)(h:rd (bts s) p=none) :
  Calls qab 126 #[jh s,je jd p] w fun e w'=>e=.returned (jk #[je jl 0,je jd 0,ji false])/\w'=w:=by
 have:=zrf s p w hs;unfold ReadIs readV at this;rw[h] at this;exact this
theorem zi8 (s:ByteArray)(p:Int)(c n:Nat)(w:World)(hs:s.size<=2000000)(h:rd (bts s) p=some (c,n)) :
  Calls qab 126 #[jh s,je jd p] w fun e w'=>e=.returned (jk #[je jl (c:Int),je jd (p+(n:Int)),ji true])/\w'=w:=by
 have:=zrf s p w hs;unfold ReadIs readV at this;rw[h] at this;exact this
