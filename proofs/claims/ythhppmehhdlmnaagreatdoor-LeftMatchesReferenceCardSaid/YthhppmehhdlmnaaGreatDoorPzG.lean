/- The contracts of the program's readers: number, escaped, Read. The contract of the program's Read: the byte of the character at an index, the index after it, an -/
import Derived.Test.YthhppmehhdlmnaaGreatDoorProg
import Derived.WalkKit
import Derived.ProofKit
import Derived.Outline
import Derived.WalkMore
import Derived.Handy
import Derived.Lib.Hide
import Derived.Test.YthhppmehhdlmnaaGreatDoorPzA
import Derived.Test.YthhppmehhdlmnaaGreatDoorPzB
set_option maxRecDepth 100000
set_option maxHeartbeats 1000000
namespace Go.Proofs.YthhppmehhdlmnaaGreatDoor
open Go.RowKit
theorem zpn {c n:Nat}{x:Nat × Nat}(h:x=(c,n)):Ending.returned (.tuple #[.int .u8 (c:Int),.int .i64 (n:Int)])=.returned (.tuple #[.int .u8 (x.1:Int),.int .i64 (x.2:Int)]):=by rw[h]
theorem zj8 (s:ByteArray)(w:World)(h3:s.size<=3)(h1:s.size=3->∀h:0<s.size,s[0].toNat<=50) :
  Calls Tryz.prog 196 #[.string s] w fun e w'=>e=.returned (.tuple #[.int .u8 ((numF 0 0 (bts s)).1:Int),.int .i64 ((numF 0 0 (bts s)).2:Int)])/\w'=w:=by
 have H1:=Lib.hid h1;clear h1;go_enter Tryz.func196,Tryz.ntmps196;go_wp2
 go_step3
 go_wp2
 go_step3
 go_wp2
 go_loop [2,3] (fun c n=>∃k v:Nat,k<=s.size/\n=.int .i64 k/\c=.int .u8 v/\numF 0 0 (bts s)=numF v k ((bts s).drop k)/\(k=0->v=0)/\(k=1->v<=7/\(s.size=3->v<=2))/\(k=2->v<=63/\(s.size=3->v<=23))/\v<=255) (fun _ n=>s.size-(intOf n).toNat)
 case atStart=>exact⟨0,0,Nat.zero_le _,rfl,rfl,rfl,by omega,by omega,by omega,by omega⟩
 case round=>
  obtain⟨k,v,hk,rfl,rfl,hn,h0,h1,h2,hv⟩:=hrel;have HN:=Lib.hid hn;clear hn;by_cases hlt:k<s.size
  ·have hd:=Lib.hid (zbd s k hlt)
   have hb:s[k].toNat<256:=s[k].toNat_lt;have hf:k=0->s.size=3->s[k].toNat<=50:=fun e h=>by subst e;exact H1.out h hlt
   by_cases hoct:48<=s[k].toNat/\s[k].toNat<=55
   ·have ho:=Lib.hid ((zff _).2 hoct)
    obtain⟨ha,hb2⟩:=hoct;have ha':(48:Int)<=(s[k].toNat:Int):=by omega
    have hb':(s[k].toNat:Int)<=55:=by omega
    have m1:0<=(v:Int)*8:=by omega
    have m2:(v:Int)*8+s[k].toNat<=255:=by omega
    go_wp2
    go_round
    case rel=>
     refine⟨k+1,v*8+s[k].toNat-48,by omega,by go_num,by go_num,?_,by omega,?_,?_,by omega⟩
     ·rw[HN.out,hd.out,zc1 _ _ ho.out]
     ·intro e;obtain rfl:k=0:=by omega
      have:=h0 rfl;have:=hf rfl;omega
     ·intro e;obtain rfl:k=1:=by omega
      have:=h1 rfl;omega
    case measure=>simp[intOf];omega
   ·have ho:=Lib.hid ((z3f _).2 hoct)
    have hres:numF 0 0 (bts s)=(v,k):=by rw[HN.out,hd.out,zhr _ _ ho.out]
    have HR:=Lib.hid hres;clear hres;by_cases ha:48<=s[k].toNat
    ·have hb2:¬s[k].toNat<=55:=by omega
     have ha':(48:Int)<=(s[k].toNat:Int):=by omega
     have hb':¬(s[k].toNat:Int)<=55:=by omega
     go_wp2
     go_ret2
     exact⟨zpn HR.out,rfl⟩
    ·have ha':¬(48:Int)<=(s[k].toNat:Int):=by omega
     go_wp2
     go_ret2
     exact⟨zpn HR.out,rfl⟩
  ·have hres:numF 0 0 (bts s)=(v,k):=by rw[HN.out,List.drop_eq_nil_of_le (by rw[zag];omega)];rfl
   have HR:=Lib.hid hres;clear hres;go_wp2
   go_ret2
   exact⟨zpn HR.out,rfl⟩
def EscIs (s:ByteArray)(w:World)(e:Ending)(w':World):Prop:=e=.returned (.tuple #[.int .u8 ((esc (bts s)).1:Int),.int .i64 ((esc (bts s)).2:Int)])/\w'=w
theorem EscIs.mk {s:ByteArray}{w:World}{c n:Nat}{x y:Int}(h:esc (bts s)=(c,n))(hx:x=c)(hy:y=n):EscIs s w (.returned (.tuple #[.int .u8 x,.int .i64 y])) w:=by
 unfold EscIs;rw[h,hx,hy];exact⟨rfl,rfl⟩
theorem EscIs.mk2 {s:ByteArray}{w:World}{p:Nat × Nat}{x y:Int}(h:esc (bts s)=p)(hx:x=p.1)(hy:y=p.2):EscIs s w (.returned (.tuple #[.int .u8 x,.int .i64 y])) w:=by
 unfold EscIs;rw[h,hx,hy];exact⟨rfl,rfl⟩
theorem zrz (s:ByteArray)(k:Nat)(h:k<=s.size):(s.extract 0 k).size=k:=by rw[ByteArray.size_extract];omega
theorem z6i (s:ByteArray)(k:Nat):bts (s.extract 0 k)=(bts s).take k:=by rw[zdt];rfl
theorem zxy (s:ByteArray)(k:Nat)(w:World)(hk:k<=s.size)(h3:k<=3)(h1:k=3->∀h:0<s.size,s[0].toNat<=50) :
  Calls Tryz.prog 196 #[.string (s.extract 0 k)] w fun e w'=>e=.returned (.tuple #[.int .u8 ((numF 0 0 ((bts s).take k)).1:Int),.int .i64 ((numF 0 0 ((bts s).take k)).2:Int)])/\w'=w:=by
 have h:=zj8 (s.extract 0 k) w (by rw[zrz s k hk];exact h3) (fun e h=>by
  rw[zrz s k hk] at e h;have e2:(s.extract 0 k)[0]=s[0]:=by rw[ByteArray.getElem_extract]
  rw[e2];exact h1 e (by omega))
 rw[z6i] at h;exact h
theorem zxz (s:ByteArray)(k:Nat)(w:World)(hk:¬k<=s.size)(h3:k<=3) :
  Calls Tryz.prog 196 #[.string s] w fun e w'=>e=.returned (.tuple #[.int .u8 ((numF 0 0 ((bts s).take k)).1:Int),.int .i64 ((numF 0 0 ((bts s).take k)).2:Int)])/\w'=w:=by
 have h:=zj8 s w (by omega) (fun e _=>by omega);rw[<-List.take_of_length_le (l:=bts s) (i:=k) (by rw[zag];omega)] at h;exact h
theorem zpo (s:ByteArray)(w:World)(hs:s.size<=9223372036854775807) :
  Calls Tryz.prog 190 #[.string s] w (EscIs s w):=by
 by_cases h0:0<s.size
 ·have hc:=Lib.hid (zp9 s h0)
  have hb:s[0].toNat<256:=s[0].toNat_lt;have hE:=zja h0;by_cases hx:s[0].toNat=110∨s[0].toNat=114∨s[0].toNat=116∨s[0].toNat=39∨s[0].toNat=34∨s[0].toNat=91∨s[0].toNat=93∨s[0].toNat=92
  ·rcases hx with h|h|h|h|h|h|h|h
   all_goals
    go_enter Tryz.func190,Tryz.ntmps190;go_wp2
    go_ret2
    exact EscIs.mk (by rw[hc.out,h,zcc];simp) rfl rfl
  ·have hx':s[0].toNat≠110/\s[0].toNat≠114/\s[0].toNat≠116/\¬(s[0].toNat=39∨s[0].toNat=34∨s[0].toNat=91∨s[0].toNat=93∨s[0].toNat=92):=by omega
   by_cases h3:s[0].toNat=48∨s[0].toNat=49∨s[0].toNat=50
   ·have he:esc (bts s)=numF 0 0 ((bts s).take 3):=by
     rw[hc.out,zcc,if_neg hx'.1,if_neg hx'.2.1,if_neg hx'.2.2.1,if_neg hx'.2.2.2,if_pos h3]
    have HE:=Lib.hid he;clear he hx hx';have hl:Hid (∀h:0<s.size,s[0].toNat<=50):=Lib.hid (fun _=>by omega);by_cases hz:3<=s.size
    ·rcases h3 with h|h|h
     all_goals
      go_enter Tryz.func190,Tryz.ntmps190
      go_wp2_with (go_at_call 196;refine(zxy s 3 _ hz (Nat.le_refl _) (fun _=>hl.out)).mono ?_;rintro e w' ⟨rfl,hw⟩;obtain rfl:=hw.symm;clear hw)
      go_ret2
      exact EscIs.mk2 HE.out rfl rfl
    ·have hz':(s.size:Int)<3:=by omega
     rcases h3 with h|h|h
     all_goals
      go_enter Tryz.func190,Tryz.ntmps190
      go_wp2_with (go_at_call 196;refine(zxz s 3 _ hz (Nat.le_refl _)).mono ?_;rintro e w' ⟨rfl,hw⟩;obtain rfl:=hw.symm;clear hw)
      go_ret2
      exact EscIs.mk2 HE.out rfl rfl
   ·by_cases h5:s[0].toNat=51∨s[0].toNat=52∨s[0].toNat=53∨s[0].toNat=54∨s[0].toNat=55
    ·have he:esc (bts s)=numF 0 0 ((bts s).take 2):=by
      rw[hc.out,zcc,if_neg hx'.1,if_neg hx'.2.1,if_neg hx'.2.2.1,if_neg hx'.2.2.2,if_neg h3,if_pos h5]
     have HE:=Lib.hid he;clear he hx hx' h3;by_cases hz:2<=s.size
     ·rcases h5 with h|h|h|h|h
      all_goals
       go_enter Tryz.func190,Tryz.ntmps190
       go_wp2_with (go_at_call 196;refine(zxy s 2 _ hz (by omega) (fun e=>absurd e (by decide))).mono ?_;rintro e w' ⟨rfl,hw⟩;obtain rfl:=hw.symm;clear hw)
       go_ret2
       exact EscIs.mk2 HE.out rfl rfl
     ·have hz':(s.size:Int)<2:=by omega
      rcases h5 with h|h|h|h|h
      all_goals
       go_enter Tryz.func190,Tryz.ntmps190
       go_wp2_with (go_at_call 196;refine(zxz s 2 _ hz (by omega)).mono ?_;rintro e w' ⟨rfl,hw⟩;obtain rfl:=hw.symm;clear hw)
       go_ret2
       exact EscIs.mk2 HE.out rfl rfl
    ·have he:esc (bts s)=(0,0):=by
      rw[hc.out,zcc,if_neg hx'.1,if_neg hx'.2.1,if_neg hx'.2.2.1,if_neg hx'.2.2.2,if_neg h3,if_neg h5]
     have HE:=Lib.hid he;clear he hx';have b1:=za2 (d:=s[0].toNat) (k:=110) (by omega);have b2:=za2 (d:=s[0].toNat) (k:=114) (by omega);have b3:=za2 (d:=s[0].toNat) (k:=116) (by omega);have b4:=za2 (d:=s[0].toNat) (k:=39) (by omega);have b5:=za2 (d:=s[0].toNat) (k:=34) (by omega);have b6:=za2 (d:=s[0].toNat) (k:=91) (by omega);have b7:=za2 (d:=s[0].toNat) (k:=93) (by omega);have b8:=za2 (d:=s[0].toNat) (k:=92) (by omega);have c1:=za2 (d:=s[0].toNat) (k:=48) (by omega);have c2:=za2 (d:=s[0].toNat) (k:=49) (by omega);have c3:=za2 (d:=s[0].toNat) (k:=50) (by omega);have c4:=za2 (d:=s[0].toNat) (k:=51) (by omega);have c5:=za2 (d:=s[0].toNat) (k:=52) (by omega);have c6:=za2 (d:=s[0].toNat) (k:=53) (by omega);have c7:=za2 (d:=s[0].toNat) (k:=54) (by omega);have c8:=za2 (d:=s[0].toNat) (k:=55) (by omega);clear hx h3 h5 hb;go_enter Tryz.func190,Tryz.ntmps190;go_wp2
     go_ret2
     exact EscIs.mk2 HE.out rfl rfl
 ·have hE:=zhx h0
  have he:esc (bts s)=(0,0):=by
   have:bts s=[]:=List.eq_nil_of_length_eq_zero (by rw[zag];omega);rw[this];rfl
  have HE:=Lib.hid he;clear he;go_enter Tryz.func190,Tryz.ntmps190;go_wp2
  go_ret2
  exact EscIs.mk2 HE.out rfl rfl
def readV (l:List Nat)(p:Int):Value:=
 match rd l p with
 |none=>.tuple #[.int .u8 0,.int .i64 0,.bool false]
 |some (c,n)=>.tuple #[.int .u8 (c:Int),.int .i64 (p+(n:Int)),.bool true]
def ReadIs (l:List Nat)(p:Int)(w:World)(e:Ending)(w':World):Prop:=e=.returned (readV l p)/\w'=w
theorem ReadIs.no {l:List Nat}{p:Int}{w:World}(h:rd l p=none):ReadIs l p w (.returned (.tuple #[.int .u8 0,.int .i64 0,.bool false])) w:=by
 unfold ReadIs readV;rw[h];exact⟨rfl,rfl⟩
theorem ReadIs.yes {l:List Nat}{p:Int}{w:World}{c n:Nat}{x y:Int}(h:rd l p=some (c,n))(hx:x=c)(hy:y=p+n):ReadIs l p w (.returned (.tuple #[.int .u8 x,.int .i64 y,.bool true])) w:=by
 unfold ReadIs readV;rw[h,hx,hy];exact⟨rfl,rfl⟩
theorem zpp (s:ByteArray)(i:Nat):bts (s.extract i s.size)=(bts s).drop i:=by
 rw[zdt,List.take_of_length_le (by rw[List.length_drop,zag];exact Nat.le_refl _)]
theorem zpq (s:ByteArray)(i:Nat)(w:World)(hs:s.size<=9223372036854775807) :
  Calls Tryz.prog 190 #[.string (s.extract i s.size)] w fun e w'=>e=.returned (.tuple #[.int .u8 ((esc ((bts s).drop i)).1:Int),.int .i64 ((esc ((bts s).drop i)).2:Int)])/\w'=w:=by
 have h:=zpo (s.extract i s.size) w (by rw[ByteArray.size_extract];omega);unfold EscIs at h;rw[zpp] at h;exact h
theorem zr0 (s:ByteArray)(p:Int)(w:World)(hs:s.size<=2000000) :
  Calls Tryz.prog 180 #[.string s,.int .i64 p] w (ReadIs (bts s) p w):=by
 by_cases hn:p<0
 ·have hr:=Lib.hid (z3e (bts s) p hn)
  go_enter Tryz.func180,Tryz.ntmps180;go_wp2;exact bodyPost_ret (v:=.tuple #[.int .u8 0,.int .i64 0,.bool false]) (by simp[results,Tryz.results180,go_sem]) rfl (ReadIs.no hr.out)
 ·obtain⟨k,rfl⟩:∃k:Nat,p=k:=⟨p.toNat,by omega⟩
  by_cases hk:k<s.size
  ·have hd:=zbd s k hk
   by_cases h92:s[k].toNat=92
   ·have hr:rd (bts s) (k:Int)=if (esc ((bts s).drop (k+1))).2=0 then none else some ((esc ((bts s).drop (k+1))).1,1+(esc ((bts s).drop (k+1))).2):=by
     rw[ze5,hd,h92,zn9]
    have hl:=zuc ((bts s).drop (k+1));rw[List.length_drop,zag] at hl;have hE:=fun w=>zpq s (k+1) w (by omega)
    generalize he:esc ((bts s).drop (k+1))=x at hr hl hE;obtain⟨c,n⟩:=x;clear he hd;have HE:=Lib.hid hE;clear hE;by_cases h0:n=0
    ·subst h0
     rw[if_pos rfl] at hr;have HR:=Lib.hid hr;clear hr;go_enter Tryz.func180,Tryz.ntmps180
     go_wp2_with (go_at_call 190;refine(HE.out _).mono ?_;rintro e w' ⟨rfl,hw⟩;obtain rfl:=hw.symm;clear hw)
     exact bodyPost_ret (v:=.tuple #[.int .u8 0,.int .i64 0,.bool false]) (by simp[results,Tryz.results180,go_sem]) rfl (ReadIs.no HR.out)
    ·rw[if_neg h0] at hr
     have HR:=Lib.hid hr;clear hr;have h0':((n:Int) == 0)=false:=by rw[beq_eq_false_iff_ne];omega
     go_enter Tryz.func180,Tryz.ntmps180
     go_wp2_with (go_at_call 190;refine(HE.out _).mono ?_;rintro e w' ⟨rfl,hw⟩;obtain rfl:=hw.symm;clear hw)
     exact bodyPost_ret (v:=.tuple #[.int .u8 (c:Int),.int .i64 ((k:Int)+1+(n:Int)),.bool true]) (by simp[results,Tryz.results180,go_sem]) rfl (ReadIs.yes HR.out rfl (by omega))
   ·have hr:=Lib.hid (show rd (bts s) (k:Int)=some (s[k].toNat,1) by rw[ze5,hd,zhq _ _ h92])
    have hb:=za2 (d:=s[k].toNat) (k:=92) (by omega);clear hd;go_enter Tryz.func180,Tryz.ntmps180;go_wp2;exact bodyPost_ret (v:=.tuple #[.int .u8 (s[k].toNat:Int),.int .i64 ((k:Int)+1),.bool true]) (by simp[results,Tryz.results180,go_sem]) rfl (ReadIs.yes hr.out rfl (by omega))
  ·have hr:=Lib.hid (z4e (bts s) k (by rw[zag];omega))
   go_enter Tryz.func180,Tryz.ntmps180;go_wp2;exact bodyPost_ret (v:=.tuple #[.int .u8 0,.int .i64 0,.bool false]) (by simp[results,Tryz.results180,go_sem]) rfl (ReadIs.no hr.out)
theorem zl4 (s:ByteArray)(p:Int)(w:World)(hs:s.size<=2000000)(h:rd (bts s) p=none) :
  Calls Tryz.prog 180 #[.string s,.int .i64 p] w fun e w'=>e=.returned (.tuple #[.int .u8 0,.int .i64 0,.bool false])/\w'=w:=by
 have:=zr0 s p w hs;unfold ReadIs readV at this;rw[h] at this;exact this
theorem ziq (s:ByteArray)(p:Int)(c n:Nat)(w:World)(hs:s.size<=2000000)(h:rd (bts s) p=some (c,n)) :
  Calls Tryz.prog 180 #[.string s,.int .i64 p] w fun e w'=>e=.returned (.tuple #[.int .u8 (c:Int),.int .i64 (p+(n:Int)),.bool true])/\w'=w:=by
 have:=zr0 s p w hs;unfold ReadIs readV at this;rw[h] at this;exact this
end Go.Proofs.YthhppmehhdlmnaaGreatDoor
