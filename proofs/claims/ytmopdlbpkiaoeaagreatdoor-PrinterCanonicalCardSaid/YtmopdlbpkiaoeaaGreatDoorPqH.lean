/- The reader of a class's ranges (a method value), parts with it, and the program's class. The program's token: the token at an index, but for its place; its end. -/
import Derived.BigRegion
import Derived.Deep.RegionHeld3
import Derived.Test.YtmopdlbpkiaoeaaGreatDoorPqLexStr
import Derived.Test.YtmopdlbpkiaoeaaGreatDoorPqF
import Derived.Test.YtmopdlbpkiaoeaaGreatDoorPqG
set_option maxRecDepth 100000
set_option maxHeartbeats 4000000
open Go.IntKind renaming i64->jd, u64->jg
open Go.Value renaming int->je, string->jh, bool->ji, pointer->jj, tuple->jk
namespace Go.Proofs.YtmopdlbpkiaoeaaGreatDoor
open Go.Lib renaming hid->qaa
open Go.Proofs.Tryz renaming func75->qfo, ntmps75->qfd, prog->qab, results75->qeg, underlying9->qba
open Go.RowKit.Below renaming refl->qaf
open Go.World renaming frozen?_setCell->qbv
open List renaming drop_drop->qb1
open Nat renaming le_of_lt->qdb, le_refl->qac
variable {s:ByteArray}{x:Int}{rs:List (Nat × Nat)}{l t:List Nat}{R k m n:Nat}{w w':World}
section
open Go.RowKit
def rgL (l:List Nat):Option ((Nat × Nat) × Nat):=
 match rdl l with
 |none=>none
 |some (lo,n)=>
  match l.drop n with
  |45::t=>match rdl t with
   |none=>some ((lo,lo),n)
   |some (hi,m)=>some ((lo,hi),n+1+m)
  |_=>some ((lo,lo),n)
theorem zvy (h:rdl l=none):rgL l=none:=by unfold rgL;rw[h]
theorem znk {lo hi:Nat}(h:rdl l=some (lo,n))(hd:l.drop n=45::t)(ht:rdl t=some (hi,m)):rgL l=some ((lo,hi),n+1+m):=by
 unfold rgL;rw[h];simp only;rw[hd];simp only;rw[ht]
theorem zvz {lo:Nat}(h:rdl l=some (lo,n))(hd:∀t,l.drop n=45::t->rdl t=none):rgL l=some ((lo,lo),n):=by
 unfold rgL;rw[h];simp only;split
 ·rename_i t ht
  rw[hd t ht]
 ·rfl
theorem znl {c:Nat}{r:List Nat}(hc:c≠93):clsL (c::r)=match rgL (c::r) with|none=>none|some (p,n)=>(clsL ((c::r).drop n)).map fun x=>(p::x.1,n+x.2):=by
 cases h:rdl (c::r) with
 |none=>rw[zf8 h hc,zvy h]
 |some x=>
  obtain⟨lo,n⟩:=x;by_cases hg:∃t hi m,(c::r).drop n=45::t/\rdl t=some (hi,m)
  ·obtain⟨t,hi,m,h1,h2⟩:=hg
   rw[zd4 h hc h1 h2,znk h h1 h2]
  ·have h3:∀t,(c::r).drop n=45::t->rdl t=none:=fun t ht=>by
    cases h2:rdl t with
    |none=>rfl
    |some y=>exact absurd ⟨t,y.1,y.2,ht,h2⟩ hg
   rw[zdw h hc h3,zvz h h3]
def RngAt (R:Nat)(s:ByteArray)(rs:List (Nat × Nat))(w:World):Prop:=
 (w.cell? ⟨R,0,none⟩=some (jh s)/\w.cell? ⟨R,1,none⟩=some (je jg (setW (inRs rs) 0))/\w.cell? ⟨R,2,none⟩=some (je jg (setW (inRs rs) 1))/\w.cell? ⟨R,3,none⟩=some (je jg (setW (inRs rs) 2))/\w.cell? ⟨R,4,none⟩=some (je jg (setW (inRs rs) 3)))/\∀o,w.frozen? ⟨R,o,none⟩=false
theorem RngAt.lt (h:RngAt R s rs w):R<w.heap.size:=zai h.1.1
theorem RngAt.below (h:RngAt R s rs w)(hb:Below n w w')(hR:R<n):RngAt R s rs w':=by
 obtain⟨⟨h0,h1,h2,h3,h4⟩,hf⟩:=h;have hc:=bcell hb;exact⟨⟨by rw[hc.1 _ _ hR];exact h0,by rw[hc.1 _ _ hR];exact h1,by rw[hc.1 _ _ hR];exact h2,by rw[hc.1 _ _ hR];exact h3,by rw[hc.1 _ _ hR];exact h4⟩,fun o=>by rw[hc.2 _ _ hR];exact hf o⟩
theorem RngAt.drew (h:RngAt R s rs w):RngAt R s rs w.drew:=h
theorem z6j (R i:Nat)(s:ByteArray)(rs:List (Nat × Nat))(w:World)(hs:s.size<=2000000)(h:RngAt R s rs w)(hr:rd (bts s) (i:Int)=none) :
  Calls qab 127 #[jj (some ⟨R,0,none⟩),je jd (i:Int)] w fun e w'=>e=.returned (jk #[je jd 0,ji false])/\w'=w:=by
 obtain⟨⟨c0,-⟩,-⟩:=h;have HD:=qaa hr;clear hr;go_enter Tryz.func127,Tryz.ntmps127
 go_wp2_with (go_at_call 126;(with_reducible refine(zly s (i:Int) _ hs HD.out).mono ?_);rintro e w' ⟨rfl,hw⟩;obtain rfl:=hw.symm;clear hw)
 go_ret2
 exact⟨rfl,rfl⟩
theorem zrg (s tl:ByteArray)(k:Nat)(ht:bts tl=(bts s).drop k)(h:(bts s).drop k=45::t):Lib.hasPrefix tl.data.toList (⟨#[45]⟩:ByteArray).data.toList=true:=by
 rw[zdb,ht,show bts ⟨#[45]⟩=[45] from rfl,h];simp[List.isPrefixOf]
theorem z39 (s tl:ByteArray)(k:Nat)(ht:bts tl=(bts s).drop k)(h:∀t,(bts s).drop k≠45::t):Lib.hasPrefix tl.data.toList (⟨#[45]⟩:ByteArray).data.toList=false:=by
 rw[zdb,ht,show bts ⟨#[45]⟩=[45] from rfl];cases hd:(bts s).drop k with
 |nil=>rfl
 |cons c r=>
  simp[List.isPrefixOf];rintro rfl;exact h r hd
theorem zgl (rs:List (Nat × Nat))(lo hi:Nat)(j:Nat):(inRs rs j || inR lo (hi+1) j)=inRs (rs++[(lo,hi)]) j:=by
 rw[zmr];unfold inR;congr 1;rw[Bool.eq_iff_iff];simp;omega
theorem zv0 (lo hi:Nat)(w:World)(h1:lo<256)(h3:hi<256) :
  Calls qab 147 #[je .u8 (lo:Int),je .u8 (hi:Int)] w
   fun e w'=>e=.returned (.agg #[je jg (setW (inR lo (hi+1)) 0),je jg (setW (inR lo (hi+1)) 1),je jg (setW (inR lo (hi+1)) 2),je jg (setW (inR lo (hi+1)) 3)])/\Below w.heap.size w w':=
 zuo (lo:Int) (hi:Int) w U U U U
theorem znm (h:Below n w.drew w'):Below n w w':=⟨h.os,h.tape,h.output,h.size,h.block⟩
theorem cso {o o':Nat}{v:Value}(h:o≠o'):(w.setCell ⟨R,o,none⟩ v).cell? ⟨R,o',none⟩=w.cell? ⟨R,o',none⟩:=World.cell?_setCell_other _ _ _ _ (fun e=>by cases e;exact h rfl)
theorem css {o:Nat}{u v:Value}(h:w.cell? ⟨R,o,none⟩=some u):(w.setCell ⟨R,o,none⟩ v).cell? ⟨R,o,none⟩=some v:=World.cell?_setCell_same _ _ _ h
theorem RngAt.stored {rs':List (Nat × Nat)}(h:RngAt R s rs w){a b c d:Int}(ha:a=setW (inRs rs') 0)(hb:b=setW (inRs rs') 1)(hc:c=setW (inRs rs') 2)(hd:d=setW (inRs rs') 3) :
  RngAt R s rs' ((((w.setCell ⟨R,1,none⟩ (je jg a)).setCell ⟨R,2,none⟩ (je jg b)).setCell ⟨R,3,none⟩ (je jg c)).setCell ⟨R,4,none⟩ (je jg d)):=by
 obtain⟨⟨h0,h1,h2,h3,h4⟩,hf⟩:=h;subst ha hb hc hd;refine⟨⟨?_,?_,?_,?_,?_⟩,fun o=>?_⟩
 ·rw[cso ja,cso ja,cso ja,cso ja];exact h0
 ·rw[cso ja,cso ja,cso ja];exact css h1
 ·rw[cso ja,cso ja];exact css (by rw[cso ja];exact h2)
 ·rw[cso ja];exact css (by rw[cso ja,cso ja];exact h3)
 ·exact css (by rw[cso ja,cso ja,cso ja];exact h4)
 ·rw[qbv,qbv,qbv,qbv];exact hf o
theorem zv1 (R i lo hi n1 n:Nat)(s:ByteArray)(rs:List (Nat × Nat))(w:World)(hs:s.size<=2000000)(h:RngAt R s rs w)(hr:rd (bts s) (i:Int)=some (lo,n1))
  (hw:(∃t m,(bts s).drop (i+n1)=45::t/\rd (bts s) ((i:Int)+(n1:Int)+1)=some (hi,m)/\n=n1+1+m)∨((∃t,(bts s).drop (i+n1)=45::t)/\rd (bts s) ((i:Int)+(n1:Int)+1)=none/\hi=lo/\n=n1)∨((∀t,(bts s).drop (i+n1)≠45::t)/\hi=lo/\n=n1)) :
  Calls qab 127 #[jj (some ⟨R,0,none⟩),je jd (i:Int)] w fun e w'=>e=.returned (jk #[je jd ((i:Int)+(n:Int)),ji true])/\RngAt R s (rs++[(lo,hi)]) w'/\Below R w w':=by
 have HH:=qaa h;obtain⟨⟨c0,-⟩,-⟩:=h;obtain⟨p0,p1,p2,p3⟩:=zdz hr;have HD:=qaa hr;have ksl:∀w,(Instr.slice 9 (jh s) (some (je jd ((i:Int)+(n1:Int)))) none none).run qab w=.ok (jh (s.extract (i+n1) s.size)) w:=fun w=>run_slice_string_l (P:=qab) (w:=w) 9 s qba .i64 ((i:Int)+(n1:Int)) U U
 have hbt:=zln s (i+n1);generalize s.extract (i+n1) s.size=tl at ksl hbt;obtain⟨b,hb⟩:∃b,Lib.hasPrefix tl.data.toList (⟨#[45]⟩:ByteArray).data.toList=b:=⟨_,rfl⟩;have HP:Hid (∀w,Calls qab 103 #[jh tl,jh ⟨#[45]⟩] w fun e w'=>e=.returned (ji b)/\w'=w):=qaa (fun w=>by rw[<-hb];exact zen tl ⟨#[45]⟩ w);have HT:=qaa hbt;have HW:=qaa hw;have HQ:=qaa hb;clear hr hbt hw hb;go_enter Tryz.func127,Tryz.ntmps127
 go_upto_if 30 with(first
  |(go_at_call 126;(with_reducible refine(zi8 s (i:Int) lo n1 _ hs HD.out).mono ?_);rintro e w' ⟨rfl,hw⟩;obtain rfl:=hw.symm;clear hw)
  |(go_at_call 103;(with_reducible refine(HP.out _).mono ?_);rintro e w' ⟨rfl,hw⟩;obtain rfl:=hw.symm;clear hw))
 go_cut [4,7] (fun a b wx=>a=je jd ((i:Int)+(n:Int))/\b=je .u8 (hi:Int)/\wx=w)
 case first=>
  rcases HW.out with⟨t,m,h1,h2,rfl⟩|⟨⟨t,h1⟩,h2,rfl,rfl⟩|⟨h1,rfl,rfl⟩
  ·obtain rfl:b=true:=HQ.out.symm.trans (zrg s tl _ HT.out h1)
   obtain⟨q0,q1,q2,q3⟩:=zdz h2;have HE:=qaa h2;clear h1 h2
   go_wp2_with (go_at_call 126;(with_reducible refine(zi8 s ((i:Int)+(n1:Int)+1) hi m _ hs HE.out).mono ?_);rintro e w' ⟨rfl,hw⟩;obtain rfl:=hw.symm;clear hw)
   go_meet
   exact⟨by congr 1;omega,rfl,rfl⟩
  ·obtain rfl:b=true:=HQ.out.symm.trans (zrg s tl _ HT.out h1)
   have HE:=qaa h2;clear h1 h2
   go_wp2_with (go_at_call 126;(with_reducible refine(zly s ((i:Int)+(n:Int)+1) _ hs HE.out).mono ?_);rintro e w' ⟨rfl,hw⟩;obtain rfl:=hw.symm;clear hw)
   go_meet
   exact⟨rfl,rfl,rfl⟩
  ·obtain rfl:b=false:=HQ.out.symm.trans (z39 s tl _ HT.out h1)
   clear h1;go_wp2
   go_meet
   exact⟨rfl,rfl,rfl⟩
 case rest=>
  obtain⟨rfl,rfl,rfl⟩:=hcut;have q3:hi<256:=by
   rcases HW.out with⟨t,m,h1,h2,-⟩|⟨-,-,rfl,-⟩|⟨-,rfl,-⟩
   ·exact(zdz h2).2.2.2
   ·exact p3
   ·exact p3
  have hz:=HH.out.lt;obtain⟨⟨d0,d1,d2,d3,d4⟩,hf⟩:=HH.out;have hf1:=hf 1;have hf2:=hf 2;have hf3:=hf 3;have hf4:=hf 4;clear hf c0;have HU:=qaa (zun (inRs rs) (inR lo (hi+1)));have HB:=qaa (qaf wc.drew.heap.size wc.drew);clear HQ HW HT HP HD ksl
  go_wp2_with fail
  go_region_with (first
   |(go_at_call 147;(with_reducible refine(zv0 lo hi _ p3 q3).mono ?_);rintro e w1 ⟨rfl,hb1⟩;obtain⟨⟨d0,d1,d2,d3,d4⟩,hf⟩:=HH.out.drew.below hb1 hz;have hf1:=hf 1;have hf2:=hf 2;have hf3:=hf 3;have hf4:=hf 4;have HB1:=qaa hb1;have hz1:=Nat.lt_of_lt_of_le hz hb1.size;have HH1:=qaa (HH.out.drew.below hb1 hz);clear hf hb1)
   |(go_at_call 146;(with_reducible refine(HU.out _).mono ?_);rintro e w2 ⟨rfl,hb2⟩;obtain⟨⟨d0,d1,d2,d3,d4⟩,hf⟩:=HH1.out.below hb2 hz1;have hf1:=hf 1;have hf2:=hf 2;have hf3:=hf 3;have hf4:=hf 4;have HB2:=qaa hb2;clear hf hb2))
  all_goals
   have HR2:Hid (RngAt R s rs w2):=qaa (HH1.out.below HB2.out hz1);clear d0 HU HH HH1;go_wp2
   go_ret2
   refine⟨rfl,HR2.out.stored (zde (fun j _=>zgl rs lo hi _)) (zde (fun j _=>zgl rs lo hi _)) (zde (fun j _=>zgl rs lo hi _)) (zde (fun j _=>zgl rs lo hi _)),?_⟩;have hB:Below R wc w2:=by
    have h1:=HB1.out;exact(znm (h1.mono (qdb hz))).trans (HB2.out.mono (qdb hz1))
   exact(((hB.setCell (p:=⟨R,1,none⟩) (qac _) _).setCell (p:=⟨R,2,none⟩) (qac _) _).setCell (p:=⟨R,3,none⟩) (qac _) _).setCell (p:=⟨R,4,none⟩) (qac _) _
def ClsParts (o:Option (List (Nat × Nat) × Nat))(R p:Nat)(s:ByteArray)(w:World)(e:Ending)(w':World):Prop:=
 match o with
 |none=>e=.returned (jk #[je jd 0,ji false])/\Below R w w'
 |some (rs,m)=>e=.returned (jk #[je jd ((p+m:Nat):Int),ji true])/\RngAt R s rs w'/\Below R w w'
theorem ClsParts.no {o:Option (List (Nat × Nat) × Nat)}{p:Nat}(h:o=none)(hb:Below R w w'):ClsParts o R p s w (.returned (jk #[je jd 0,ji false])) w':=by
 subst h;exact⟨rfl,hb⟩
theorem ClsParts.yes {o:Option (List (Nat × Nat) × Nat)}{p:Nat}(h:o=some (rs,m))(hx:x=((p+m:Nat):Int))(hl:RngAt R s rs w')(hb:Below R w w'):ClsParts o R p s w (.returned (jk #[je jd x,ji true])) w':=by
 subst h hx;exact⟨rfl,hl,hb⟩
theorem z4a (R i:Nat)(s:ByteArray)(rs:List (Nat × Nat))(w:World)(hs:s.size<=2000000)(h:RngAt R s rs w)(p:Nat × Nat)(n:Nat)(hr:rgL ((bts s).drop i)=some (p,n)) :
  (Calls qab 127 #[jj (some ⟨R,0,none⟩),je jd (i:Int)] w fun e w'=>e=.returned (jk #[je jd ((i:Int)+(n:Int)),ji true])/\RngAt R s (rs++[p]) w'/\Below R w w')/\1<=n/\i+n<=s.size:=by
 cases h1:rdl ((bts s).drop i) with
 |none=>rw[zvy h1] at hr;cases hr
 |some x=>
  obtain⟨lo,n1⟩:=x;have hr1:rd (bts s) (i:Int)=some (lo,n1):=by rw[zcn];exact h1
  have hb1:=zdz hr1;by_cases hg:∃t hi m,((bts s).drop i).drop n1=45::t/\rdl t=some (hi,m)
  ·obtain⟨t,hi,m,h2,h3⟩:=hg
   rw[znk h1 h2 h3] at hr;rw[qb1] at h2;have ht:t=(bts s).drop (i+n1+1):=by
    have:=congrArg (List.drop 1) h2;rw[qb1] at this;exact this.symm
   have hr2:rd (bts s) ((i:Int)+(n1:Int)+1)=some (hi,m):=by
    rw[show(i:Int)+(n1:Int)+1=((i+n1+1:Nat):Int) by omega,zcn,<-ht];exact h3
   have hb2:=zdz hr2;cases hr;exact⟨zv1 R i lo hi n1 (n1+1+m) s rs w hs h hr1 (Or.inl ⟨t,m,h2,hr2,rfl⟩),U,U⟩
  ·have h3:∀t,((bts s).drop i).drop n1=45::t->rdl t=none:=fun t ht=>by
    cases h2:rdl t with
    |none=>rfl
    |some y=>exact absurd ⟨t,y.1,y.2,ht,h2⟩ hg
   rw[zvz h1 h3] at hr;obtain⟨rfl,e2⟩:=Prod.mk.inj (Option.some.inj hr);subst e2;rw[qb1] at h3;refine⟨zv1 R i lo lo n1 n1 s rs w hs h hr1 (Or.inr ?_),U,U⟩;by_cases hd:∃t,(bts s).drop (i+n1)=45::t
   ·obtain⟨t,ht⟩:=hd
    have ht2:t=(bts s).drop (i+n1+1):=by
     have:=congrArg (List.drop 1) ht;rw[qb1] at this;exact this.symm
    exact Or.inl ⟨⟨t,ht⟩,by rw[show(i:Int)+(n1:Int)+1=((i+n1+1:Nat):Int) by omega,zcn,<-ht2];exact h3 t ht,rfl,rfl⟩
   ·exact Or.inr ⟨fun t ht=>hd ⟨t,ht⟩,rfl,rfl⟩
theorem znn (R p:Nat)(s:ByteArray)(w:World)(hs:s.size<=2000000)(hp:p<=s.size)(h:RngAt R s [] w) :
  Calls qab 124 #[jh s,je jd (p:Int),je .u8 93,.func (.func 127) #[jj (some ⟨R,0,none⟩)] #[]] w (ClsParts (clsL ((bts s).drop p)) R p s w):=by
 have HH:=qaa h;clear h;go_enter Tryz.func124,Tryz.ntmps124;go_wp2
 go_loopw [1,9] (fun c _ wx=>∃(i:Nat) (rs:List (Nat × Nat)),p<=i/\i<=s.size/\c=je jd i/\RngAt R s rs wx/\Below R w wx/\clsL ((bts s).drop p)=(clsL ((bts s).drop i)).map fun x=>(rs++x.1,(i-p)+x.2)) (fun c _ _=>s.size-(intOf c).toNat)
 case atStart=>exact⟨p,[],qac _,hp,rfl,HH.out,qaf _ _,jc⟩
 case round=>
  obtain⟨i,rs,hpi,hi,rfl,hl,hb,hu⟩:=hrel;have HU:=qaa hu;have HL:=qaa hl;have HB:=qaa hb;clear hu hl hb;by_cases hlt:i<s.size
  ·have hdi:=zas s i hlt
   have hlt':(i:Int)<(s.size:Int):=U
   by_cases hd:s[i].toNat=93
   ·have hr:clsL ((bts s).drop p)=some (rs,(i-p)+1):=by
     rw[HU.out,hdi,hd,zh6];simp
    have HR:=qaa hr;have hd':((s[i].toNat:Int) != 93)=false:=by rw[hd];rfl
    have e1:((i:Int) == (s.size:Int))=false:=by rw[beq_eq_false_iff_ne];omega
    clear hr hdi hd;go_wp2
    go_ret2
    exact ClsParts.yes HR.out U HL.out HB.out
   ·have hd':((s[i].toNat:Int) != 93)=true:=by rw[bne_iff_ne];omega
    cases hr:rgL ((bts s).drop i) with
    |none=>
     have hr0:rd (bts s) (i:Int)=none:=by
      cases h1:rdl ((bts s).drop i) with
      |none=>rw[zcn];exact h1
      |some x=>
       exfalso;unfold rgL at hr;rw[h1] at hr;simp only at hr;split at hr
       ·split at hr<;>cases hr
       ·cases hr
     have hr':clsL ((bts s).drop p)=none:=by
      rw[HU.out,hdi,znl hd,<-hdi,hr];rfl
     have HR:=qaa hr';have HDD:=qaa hr0;clear hr hr0 hr' hdi hd
     go_wp2_with (go_at_call 127;(with_reducible refine(z6j R i s rs _ hs HL.out HDD.out).mono ?_);rintro e w' ⟨rfl,hw⟩;obtain rfl:=hw.symm;clear hw)
     go_ret2
     exact ClsParts.no HR.out HB.out
    |some x=>
     obtain⟨q,n⟩:=x;have hr':clsL ((bts s).drop p)=(clsL ((bts s).drop (i+n))).map fun x=>((rs++[q])++x.1,(i+n-p)+x.2):=by
      rw[HU.out,hdi,znl hd,<-hdi,hr];simp only;rw[qb1,zga];rw[show i-p+n=i+n-p by omega]
     obtain⟨hc,hn1,hn2⟩:=z4a R i s rs wr hs HL.out q n hr;have HR:=qaa hr';have HC:=qaa hc;clear hr hr' hdi hd hc
     go_wp2_with (go_at_call 127;(with_reducible refine HC.out.mono ?_);rintro e w' ⟨rfl,hl2,hb2⟩;have HL2:=qaa hl2;have HB2:=qaa hb2;clear hl2 hb2)
     go_roundw
     case rel=>exact⟨i+n,rs++[q],U,U,by go_num,HL2.out,HB.out.trans HB2.out,HR.out⟩
     case measure=>simp[intOf];omega
  ·have hr:clsL ((bts s).drop p)=none:=by
    rw[HU.out,List.drop_eq_nil_of_le (show(bts s).length<=i by rw[zaj];omega),zh5];rfl
   have HR:=qaa hr;have hlt':decide ((i:Int)<(s.size:Int))=false:=by rw[decide_eq_false_iff_not];omega
   have e1:((i:Int) == (s.size:Int))=true:=by rw[beq_iff_eq];omega
   clear hr;go_wp2
   go_ret2
   exact ClsParts.no HR.out HB.out
end
section
open Go.RowKit
theorem Zero7.new2 (w:World):Zero7 w.heap.size (w.alloc (.cells #[je jd 0,je jd 0,jh ⟨#[]⟩,je jg 0,je jg 0,je jg 0,je jg 0] 95)):=by
 unfold Zero7;refine⟨⟨?_,?_,?_,?_,?_,?_,?_⟩,fun o=>?_⟩<;>simp
def clsW (s:ByteArray)(w:World):World:=(w.alloc (Obj.cells #[Value.int IntKind.i64 0,Value.int IntKind.i64 0,Value.string { data:=#[] },Value.int IntKind.u64 0,Value.int IntKind.u64 0,Value.int IntKind.u64 0,Value.int IntKind.u64 0] 95)).alloc (Obj.cells #[Value.string s,Value.int IntKind.u64 0,Value.int IntKind.u64 0,Value.int IntKind.u64 0,Value.int IntKind.u64 0] 202)
theorem zkq (s:ByteArray)(w:World):Below w.heap.size w (clsW s w):=((qaf _ _).alloc (qac _) _).alloc jc _
theorem zno (s:ByteArray)(w:World):Zero7 w.heap.size (clsW s w):=(Zero7.new2 w).below (n:=w.heap.size+1) ((qaf _ _).alloc jc _) U
theorem zv2 (s:ByteArray)(w:World):RngAt (w.heap.size+1) s [] (clsW s w):=by
 unfold RngAt;simp only[zc6];unfold clsW;refine⟨⟨?_,?_,?_,?_,?_⟩,fun o=>?_⟩
 all_goals first
  |(rw[World.cell?_alloc_at _ _ _ _ jc];rfl)
  |rw[World.frozen?_alloc_at _ _ _ _ jc]
def PClsIs (o:Option (List (Nat × Nat) × Nat))(k:Nat)(w:World)(e:Ending)(w':World):Prop:=
 match o with
 |none=>e=.returned (jk #[.agg #[je jd 0,je jd 0,jh ⟨#[]⟩,je jg 0,je jg 0,je jg 0,je jg 0],je jd 0,ji false])/\Below w.heap.size w w'
 |some (rs,m)=>e=.returned (jk #[.agg #[je jd 13,je jd 0,jh ⟨#[]⟩,je jg (setW (inRs rs) 0),je jg (setW (inRs rs) 1),je jg (setW (inRs rs) 2),je jg (setW (inRs rs) 3)],je jd ((k+1+m:Nat):Int),ji true])/\Below w.heap.size w w'
theorem PClsIs.no {o:Option (List (Nat × Nat) × Nat)}(h:o=none)(hb:Below w.heap.size w w') :
  PClsIs o k w (.returned (jk #[.agg #[je jd 0,je jd 0,jh ⟨#[]⟩,je jg 0,je jg 0,je jg 0,je jg 0],je jd 0,ji false])) w':=by
 subst h;exact⟨rfl,hb⟩
theorem PClsIs.yes {o:Option (List (Nat × Nat) × Nat)}(h:o=some (rs,m))(hx:x=((k+1+m:Nat):Int))(hb:Below w.heap.size w w') :
  PClsIs o k w (.returned (jk #[.agg #[je jd 13,je jd 0,jh ⟨#[]⟩,je jg (setW (inRs rs) 0),je jg (setW (inRs rs) 1),je jg (setW (inRs rs) 2),je jg (setW (inRs rs) 3)],je jd x,ji true])) w':=by
 subst h hx;exact⟨rfl,hb⟩
theorem zzr (s:ByteArray)(k:Nat)(w:World)(hs:s.size<=1050000)(hlt:k<s.size)(hr:clsL ((bts s).drop (k+1))=none) :
  Calls qab 101 #[jh s,je jd (k:Int)] w (PClsIs none k w):=by
 have hlt':(k:Int)<(s.size:Int):=U
 have hc:Calls qab 124 #[jh s,je jd ((k:Int)+1),je .u8 93,.func (.func 127) #[jj (some ⟨w.heap.size+1,0,none⟩)] #[]] (clsW s w) fun e w'=>e=.returned (jk #[je jd 0,ji false])/\Below (w.heap.size+1) (clsW s w) w':=by
  have h:=znn (w.heap.size+1) (k+1) s (clsW s w) U U (zv2 s w);unfold ClsParts at h;rw[hr] at h;exact h
 unfold clsW at hc;have HC:=qaa hc;clear hc hr;go_enter Tryz.func101,Tryz.ntmps101
 go_wp2_with (go_at_call 124;refine HC.out.mono ?_;rintro e w2 ⟨rfl,hb⟩;obtain⟨⟨d0,d1,d2,d3,d4,d5,d6⟩,hfr⟩:=(zno s w).below hb U;have HB:=qaa ((zkq s w).trans (hb.mono (Nat.le_succ _)));clear hb)
 refine bodyPost_ret (v:=jk #[.agg #[je jd 0,je jd 0,jh ⟨#[]⟩,je jg 0,je jg 0,je jg 0,je jg 0],je jd 0,ji false]) (by simp[results,Tryz.results101,go_sem,d0,d1,d2,d3,d4,d5,d6]) rfl (PClsIs.no rfl ?_);exact za8 HB.out _ _ _ _ _ _ _
theorem zv3 (s:ByteArray)(k m:Nat)(rs:List (Nat × Nat))(w:World)(hs:s.size<=1050000)(hlt:k<s.size)(hr:clsL ((bts s).drop (k+1))=some (rs,m)) :
  Calls qab 101 #[jh s,je jd (k:Int)] w (PClsIs (some (rs,m)) k w):=by
 have hlt':(k:Int)<(s.size:Int):=U
 have hc:Calls qab 124 #[jh s,je jd ((k:Int)+1),je .u8 93,.func (.func 127) #[jj (some ⟨w.heap.size+1,0,none⟩)] #[]] (clsW s w) fun e w'=>e=.returned (jk #[je jd ((k+1+m:Nat):Int),ji true])/\RngAt (w.heap.size+1) s rs w'/\Below (w.heap.size+1) (clsW s w) w':=by
  have h:=znn (w.heap.size+1) (k+1) s (clsW s w) U U (zv2 s w);unfold ClsParts at h;rw[hr] at h;exact h
 unfold clsW at hc;obtain⟨n,hn⟩:∃n:Nat,k+1+m=n:=⟨_,rfl⟩;rw[hn] at hc;have HN:=qaa hn;have HC:=qaa hc;clear hc hr hn;go_enter Tryz.func101,Tryz.ntmps101
 go_wp2_with (go_at_call 124;refine HC.out.mono ?_;rintro e w2 ⟨rfl,hl,hb⟩;obtain⟨⟨d0,d1,d2,d3,d4,d5,d6⟩,hfr⟩:=(zno s w).below hb U;obtain⟨⟨-,c1,c2,c3,c4⟩,-⟩:=hl;have HB:=qaa ((zkq s w).trans (hb.mono (Nat.le_succ _)));clear hb)
 refine bodyPost_ret (v:=jk #[.agg #[je jd 13,je jd 0,jh ⟨#[]⟩,je jg (setW (inRs rs) 0),je jg (setW (inRs rs) 1),je jg (setW (inRs rs) 2),je jg (setW (inRs rs) 3)],je jd (n:Int),ji true]) (by simp[results,Tryz.results101,go_sem,d0,d1,d2,d3,d4,d5,d6]) rfl (PClsIs.yes rfl (by rw[HN.out]) ?_);exact za8 HB.out _ _ _ _ _ _ _
theorem zs4 (s:ByteArray)(k:Nat)(w:World)(hs:s.size<=1050000)(hlt:k<s.size) :
  Calls qab 101 #[jh s,je jd (k:Int)] w (PClsIs (clsL ((bts s).drop (k+1))) k w):=by
 cases hr:clsL ((bts s).drop (k+1)) with
 |none=>exact zzr s k w hs hlt hr
 |some x=>obtain⟨rs,m⟩:=x;exact zv3 s k m rs w hs hlt hr
end
open Go.RowKit
def PTokIs (o:Option (Tok × Nat))(w:World)(e:Ending)(w':World):Prop:=
 match o with
 |none=>e=.returned (jk #[.agg #[je jd 0,je jd 0,jh ⟨#[]⟩,je jg 0,je jg 0,je jg 0,je jg 0],je jd 0,ji false])/\Below w.heap.size w w'
 |some (t,n)=>e=.returned (jk #[.agg #[je jd (t.kind:Int),je jd 0,jh (strOf t.text),je jg (setW (inRs t.rs) 0),je jg (setW (inRs t.rs) 1),je jg (setW (inRs t.rs) 2),je jg (setW (inRs t.rs) 3)],je jd (n:Int),ji true])/\Below w.heap.size w w'
theorem PTokIs.no {o:Option (Tok × Nat)}(h:o=none)(hb:Below w.heap.size w w') :
  PTokIs o w (.returned (jk #[.agg #[je jd 0,je jd 0,jh ⟨#[]⟩,je jg 0,je jg 0,je jg 0,je jg 0],je jd 0,ji false])) w':=by
 subst h;exact⟨rfl,hb⟩
theorem PTokIs.plain {o:Option (Tok × Nat)}{a:Nat}{y:Int}(h:o=some (⟨a,k,t,[]⟩,n))(ha:x=a)(hs:s=strOf t)(hn:y=n)(hb:Below w.heap.size w w') :
  PTokIs o w (.returned (jk #[.agg #[je jd x,je jd 0,jh s,je jg 0,je jg 0,je jg 0,je jg 0],je jd y,ji true])) w':=by
 subst h ha hs hn;refine⟨?_,hb⟩;simp only[zc6]
theorem PTokIs.cls {o:Option (Tok × Nat)}{y:Int}(h:o=some (⟨13,k,[],rs⟩,n))(hn:y=n)(hb:Below w.heap.size w w') :
  PTokIs o w (.returned (jk #[.agg #[je jd 13,je jd 0,jh ⟨#[]⟩,je jg (setW (inRs rs) 0),je jg (setW (inRs rs) 1),je jg (setW (inRs rs) 2),je jg (setW (inRs rs) 3)],je jd y,ji true])) w':=by
 subst h hn;exact⟨rfl,hb⟩
def sgN (i:Nat):Nat:=if i=2 then 2 else 1
theorem z4b {c:Nat}{r:List Nat}(hl:letB c true=false)(h91:c≠91)(hq:¬(c=39∨c=34)):tokL k (c::r)=(prF 2 sgL (c::r)).map fun i=>(⟨i,k,[],[]⟩,k+sgN i):=by
 rw[zu0];by_cases ha:c=60/\r.head?=some 45
 ·rw[if_pos ha,zbq hl ha];rfl
 ·rw[if_neg ha]
  cases hs:signK c with
  |none=>rw[zc3 hl ha hs h91 hq];rfl
  |some i=>
   rw[zca hl ha hs];have:=zlf _ _ _ _ hs;show _=some (_,k+sgN i);unfold sgN;rw[if_neg U]
theorem ze7 (w:World):Below w.heap.size w (w.alloc (.cells #[je jd 0,je jd 0,jh ⟨#[]⟩,je jg 0,je jg 0,je jg 0,je jg 0] 95)):=(qaf _ w).alloc (qac _) _
theorem zbd (w:World)(o:Obj):(w.alloc o).heap.size=w.heap.size+1:=jc
theorem zzs (s:ByteArray)(k:Nat)(w:World)(hs:s.size<=1050000)(hlt:k<s.size)(h91:s[k].toNat=91) :
  Calls qab 75 #[jh s,je jd (k:Int)] w (PTokIs (tokL k ((bts s).drop k)) w):=by
 have hlt':(k:Int)<(s.size:Int):=U
 have hq:tokL k ((bts s).drop k)=(clsL ((bts s).drop (k+1))).map fun x=>(⟨13,k,[],x.1⟩,k+1+x.2):=by rw[zas s k hlt,h91];exact zc9
 have hc:=zs4 s k;cases hr:clsL ((bts s).drop (k+1)) with
 |none=>
  rw[hr] at hc hq;have HQ:Hid (tokL k ((bts s).drop k)=none):=qaa hq;have hc':∀w,Calls qab 101 #[jh s,je jd (k:Int)] w fun e w'=>e=.returned (jk #[.agg #[je jd 0,je jd 0,jh ⟨#[]⟩,je jg 0,je jg 0,je jg 0,je jg 0],je jd 0,ji false])/\Below w.heap.size w w':=fun w=>hc w hs hlt
  have HC:=qaa hc';clear hc hc' hq hr;go_enter qfo,qfd
  go_wp2_with (go_at_call 101;(with_reducible refine(HC.out _).mono ?_);rintro e w2 ⟨rfl,hb⟩;obtain⟨⟨d0,d1,d2,d3,d4,d5,d6⟩,hfr⟩:=(Zero7.new2 w).below hb (by rw[zbd];omega);have HB:=qaa ((ze7 w).trans (hb.mono (by rw[zbd];omega)));clear hb)
  refine bodyPost_ret (v:=jk #[.agg #[je jd 0,je jd 0,jh ⟨#[]⟩,je jg 0,je jg 0,je jg 0,je jg 0],je jd 0,ji false]) (by simp[results,qeg,go_sem,d0,d1,d2,d3,d4,d5,d6]) rfl (PTokIs.no HQ.out ?_);exact za8 HB.out _ _ _ _ _ _ _
 |some x=>
  obtain⟨rs,m⟩:=x;rw[hr] at hc hq;have HQ:Hid (tokL k ((bts s).drop k)=some (⟨13,k,[],rs⟩,k+1+m)):=qaa hq;have hc':∀w,Calls qab 101 #[jh s,je jd (k:Int)] w fun e w'=>e=.returned (jk #[.agg #[je jd 13,je jd 0,jh ⟨#[]⟩,je jg (setW (inRs rs) 0),je jg (setW (inRs rs) 1),je jg (setW (inRs rs) 2),je jg (setW (inRs rs) 3)],je jd ((k+1+m:Nat):Int),ji true])/\Below w.heap.size w w':=fun w=>hc w hs hlt
  obtain⟨n,hn⟩:∃n:Nat,k+1+m=n:=⟨_,rfl⟩;rw[hn] at hc' HQ;have HC:=qaa hc';clear hc hc' hq hr hn;go_enter qfo,qfd
  go_wp2_with (go_at_call 101;(with_reducible refine(HC.out _).mono ?_);rintro e w2 ⟨rfl,hb⟩;obtain⟨⟨d0,d1,d2,d3,d4,d5,d6⟩,hfr⟩:=(Zero7.new2 w).below hb (by rw[zbd];omega);have HB:=qaa ((ze7 w).trans (hb.mono (by rw[zbd];omega)));clear hb)
  refine bodyPost_ret (v:=jk #[.agg #[je jd 13,je jd 0,jh ⟨#[]⟩,je jg (setW (inRs rs) 0),je jg (setW (inRs rs) 1),je jg (setW (inRs rs) 2),je jg (setW (inRs rs) 3)],je jd (n:Int),ji true]) (by simp[results,qeg,go_sem,d0,d1,d2,d3,d4,d5,d6]) rfl (PTokIs.cls HQ.out rfl ?_);exact za8 HB.out _ _ _ _ _ _ _
theorem zv4 (s:ByteArray)(k:Nat)(w:World)(hs:s.size<=1050000)(hlt:k<s.size)(hl:letB s[k].toNat true=true)(h91:s[k].toNat≠91)(h39:s[k].toNat≠39)(h34:s[k].toNat≠34) :
  Calls qab 75 #[jh s,je jd (k:Int)] w (PTokIs (tokL k ((bts s).drop k)) w):=by
 have hlt':(k:Int)<(s.size:Int):=U
 have hd:=zas s k hlt;have hq:tokL k ((bts s).drop k)=some (⟨1,k,((bts s).drop k).take (idL true ((bts s).drop k)),[]⟩,k+idL true ((bts s).drop k)):=by rw[hd];exact zci hl
 have hn1:1<=idL true ((bts s).drop k):=by rw[hd,zbu hl];omega
 have hn2:=zuc ((bts s).drop k) true;rw[List.length_drop,zaj] at hn2;have hW:∀w,Calls qab 102 #[jh s,je jd (k:Int)] w fun e w'=>e=.returned (je jd ((k+idL true ((bts s).drop k):Nat):Int))/\w'=w:=fun w=>zlm s k w U U
 obtain⟨n,hn⟩:∃n,k+idL true ((bts s).drop k)=n:=⟨_,rfl⟩;have hx:s.extract k n=strOf (((bts s).drop k).take (idL true ((bts s).drop k))):=by rw[zgk,<-hn,Nat.add_sub_cancel_left]
 rw[hn] at hW hq;have g1:k<n:=U
 have g2:n<=s.size:=U
 have g3:(k:Int)<(n:Int):=U
 have ksl:∀w,(Instr.slice 9 (jh s) (some (je jd (k:Int))) (some (je jd (n:Int))) none).run qab w=.ok (jh (s.extract k n)) w:=fun w=>
  run_slice_string (P:=qab) (w:=w) 9 s .i64 .i64 (k:Int) (n:Int) qba U U U
 have hxs:(s.extract k n).size<=2000000:=by rw[ByteArray.size_extract];omega
 generalize s.extract k n=tl at ksl hxs hx;have e1:=zav (d:=s[k].toNat) (k:=91) U;have e2:=zav (d:=s[k].toNat) (k:=39) U;have e3:=zav (d:=s[k].toNat) (k:=34) U;have HW:=qaa hW;have HQ:=qaa hq;have HX:=qaa hx;clear hW hq hx hn hn1 hn2 hd hl h91 h39 h34;go_enter qfo,qfd
 go_wp2_with (first
  |(go_at_call 102;(with_reducible refine(HW.out _).mono ?_);rintro e w' ⟨rfl,hw⟩;obtain rfl:=hw.symm;clear hw)
  |(go_at_call 90;(with_reducible refine(ze1 tl _ hxs).mono ?_);rintro e w2 ⟨rfl,hb⟩;obtain⟨⟨d0,d1,d2,d3,d4,d5,d6⟩,hfr⟩:=(Zero7.new2 w).below hb (by rw[zbd];omega);have HB:=qaa ((ze7 w).trans (hb.mono (by rw[zbd];omega)));clear hb))
 refine bodyPost_ret (v:=jk #[.agg #[je jd 1,je jd 0,jh tl,je jg 0,je jg 0,je jg 0,je jg 0],je jd (n:Int),ji true]) (by simp[results,qeg,go_sem,d0,d1,d2,d3,d4,d5,d6]) rfl (PTokIs.plain HQ.out rfl HX.out rfl ?_);exact za8 HB.out _ _ _ _ _ _ _
theorem zv5 (s:ByteArray)(k:Nat)(w:World)(hs:s.size<=2000000)(hlt:k<s.size)(hl:letB s[k].toNat true=false) :
  Calls qab 102 #[jh s,je jd (k:Int)] w fun e w'=>e=.returned (je jd (k:Int))/\w'=w:=by
 have h:=zlm s k w hs U;rw[zas s k hlt,zex hl] at h;exact h
theorem zv6 (s:ByteArray)(k:Nat)(w:World)(hs:s.size<=1050000)(hlt:k<s.size)(hS:SignsAt w)(hl:letB s[k].toNat true=false)(h91:s[k].toNat≠91)(h39:s[k].toNat≠39)(h34:s[k].toNat≠34) :
  Calls qab 75 #[jh s,je jd (k:Int)] w (PTokIs (tokL k ((bts s).drop k)) w):=by
 have hlt':(k:Int)<(s.size:Int):=U
 have hd:=zas s k hlt;have hq:tokL k ((bts s).drop k)=(prF 2 sgL ((bts s).drop k)).map fun i=>(⟨i,k,[],[]⟩,k+sgN i):=by rw[hd];exact z4b hl h91 U
 have hW:∀w,Calls qab 102 #[jh s,je jd (k:Int)] w fun e w'=>e=.returned (je jd (k:Int))/\w'=w:=fun w=>zv5 s k w U hlt hl
 have ksl:∀w,(Instr.slice 9 (jh s) (some (je jd (k:Int))) none none).run qab w=.ok (jh (s.extract k s.size)) w:=fun w=>run_slice_string_l (P:=qab) (w:=w) 9 s qba .i64 (k:Int) U U
 have hbt:=zln s k;generalize s.extract k s.size=tl at ksl hbt;have e1:=zav (d:=s[k].toNat) (k:=91) U;have e2:=zav (d:=s[k].toNat) (k:=39) U;have e3:=zav (d:=s[k].toNat) (k:=34) U;have hS1:SignsAt (w.alloc (.cells #[je jd 0,je jd 0,jh ⟨#[]⟩,je jg 0,je jg 0,je jg 0,je jg 0] 95)):=hS.kept (ze7 w) (qac _);have HS1:=qaa hS1;have HW:=qaa hW;have HQ:=qaa hq;have HT:=qaa hbt;clear hW hq hbt hd hl h91 h39 h34 hS hS1;go_enter qfo,qfd
 go_wp2_with (go_at_call 102;(with_reducible refine(HW.out _).mono ?_);rintro e w' ⟨rfl,hw⟩;obtain rfl:=hw.symm;clear hw;have c0:=HS1.out 0 ja;have c1:=HS1.out 1 ja;have c2:=HS1.out 2 ja;have c3:=HS1.out 3 ja;have c4:=HS1.out 4 ja;have c5:=HS1.out 5 ja;have c6:=HS1.out 6 ja;have c7:=HS1.out 7 ja;have c8:=HS1.out 8 ja;have c9:=HS1.out 9 ja)
 rw[z3v];clear c0 c1 c2 c3 c4 c5 c6 c7 c8 c9
 go_loop [43] (fun c=>∃j:Nat,j<=10/\c=je jd j/\prF 2 sgL ((bts s).drop k)=prF (2+j) (sgL.drop j) ((bts s).drop k)) (fun c=>10-(intOf c).toNat)
 case atStart=>exact⟨0,U,rfl,rfl⟩
 case round=>
  obtain⟨j,hj,rfl,he⟩:=hrel;have HE:=qaa he;clear he;by_cases hltj:j<10
  ·have hltj':(j:Int)<10:=U
   have hix:=fun w=>zu1 w j hltj
   have hb:=z3t j hltj;have hdj:=zzf j hltj;have hlen:=z3u j hltj;rw[<-hb] at hdj hlen;rw[zaj] at hlen;generalize sgS j=x at hix hb hdj hlen;cases hx:(bts x).isPrefixOf ((bts s).drop k)
   ·have hq:prF 2 sgL ((bts s).drop k)=prF (2+(j+1)) (sgL.drop (j+1)) ((bts s).drop k):=by rw[HE.out,hdj,zuy hx];rfl
    have hp:∀w,Calls qab 103 #[jh tl,jh x] w fun e w'=>e=.returned (ji false)/\w'=w:=fun w=>by
     have h:=zen tl x w;rw[zdb,HT.out,hx] at h;exact h
    have HP:=qaa hp;have HQ2:=qaa hq;clear hq hb hdj hx hp hlen
    go_wp2_with (go_at_call 103;(with_reducible refine(HP.out _).mono ?_);rintro e w' ⟨rfl,hw⟩;obtain rfl:=hw.symm;clear hw)
    go_round
    case rel=>exact⟨j+1,U,by go_num,HQ2.out⟩
    case measure=>simp[intOf];omega
   ·have hq:tokL k ((bts s).drop k)=some (⟨2+j,k,[],[]⟩,k+x.size):=by
     rw[HQ.out,HE.out,hdj,zo7 hx,hlen];show some (_,k+sgN (2+j))=_;unfold sgN;by_cases h0:j=0
     ·subst h0;rfl
     ·rw[if_neg U,if_neg h0]
    have hxz:x.size<=2:=by rw[hlen];split<;>omega
    have hp:∀w,Calls qab 103 #[jh tl,jh x] w fun e w'=>e=.returned (ji true)/\w'=w:=fun w=>by
     have h:=zen tl x w;rw[zdb,HT.out,hx] at h;exact h
    have HP:=qaa hp;have HQ2:=qaa hq;clear hq hb hdj hx hp hlen
    go_wp2_with (go_at_call 103;(with_reducible refine(HP.out _).mono ?_);rintro e w' ⟨rfl,hw⟩;obtain rfl:=hw.symm;clear hw)
    refine bodyPost_ret (v:=jk #[.agg #[je jd (2+(j:Int)),je jd 0,jh ⟨#[]⟩,je jg 0,je jg 0,je jg 0,je jg 0],je jd ((k:Int)+(x.size:Int)),ji true]) (by simp[results,qeg,go_sem]) rfl (PTokIs.plain HQ2.out U rfl U ?_)
    first
     |exact(qaf _ w).alloc (qac _) _
     |exact za8 (ze7 w) _ _ _ _ _ _ _
  ·obtain rfl:j=10:=U
   have hq:tokL k ((bts s).drop k)=none:=by rw[HQ.out,HE.out];rfl
   have HQ2:=qaa hq;clear hq;go_wp2;refine bodyPost_ret (v:=jk #[.agg #[je jd 0,je jd 0,jh ⟨#[]⟩,je jg 0,je jg 0,je jg 0,je jg 0],je jd 0,ji false]) (by simp[results,qeg,go_sem]) rfl (PTokIs.no HQ2.out ?_)
   first
    |exact(qaf _ w).alloc (qac _) _
    |exact za8 (ze7 w) _ _ _ _ _ _ _
