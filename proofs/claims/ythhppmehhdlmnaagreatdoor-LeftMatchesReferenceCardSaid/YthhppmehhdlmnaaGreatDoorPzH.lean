/- The reader of a class's ranges (a method value), parts with it, and the program's class. The program's token: the token at an index, but for its place; its end. -/
import Derived.BigRegion
import Derived.Deep.RegionHeld3
import Derived.Test.YthhppmehhdlmnaaGreatDoorPzB
import Derived.Test.YthhppmehhdlmnaaGreatDoorPzLexStr
import Derived.Test.YthhppmehhdlmnaaGreatDoorPzG
import Derived.Test.YthhppmehhdlmnaaGreatDoorPzF
set_option maxRecDepth 100000
set_option maxHeartbeats 4000000
namespace Go.Proofs.YthhppmehhdlmnaaGreatDoor
section
open Go.RowKit
def rgL (l:List Nat):Option ((Nat × Nat) × Nat):=
 match rdl l with
 |none=>none
 |some (lo,n)=>
  match l.drop n with
  |45::t=>match rdl t with
   |none=>some ((lo,lo),n)
   |some (hi,m)=>some ((lo,hi),n+1+m)
  |_=>some ((lo,lo),n)
theorem zx1 {l:List Nat}(h:rdl l=none):rgL l=none:=by unfold rgL;rw[h]
theorem zno {l t:List Nat}{lo n hi m:Nat}(h:rdl l=some (lo,n))(hd:l.drop n=45::t)(ht:rdl t=some (hi,m)):rgL l=some ((lo,hi),n+1+m):=by
 unfold rgL;rw[h];simp only;rw[hd];simp only;rw[ht]
theorem zx2 {l:List Nat}{lo n:Nat}(h:rdl l=some (lo,n))(hd:∀t,l.drop n=45::t->rdl t=none):rgL l=some ((lo,lo),n):=by
 unfold rgL;rw[h];simp only;split
 ·rename_i t ht
  rw[hd t ht]
 ·rfl
theorem znp {c:Nat}{r:List Nat}(hc:c≠93):clsL (c::r)=match rgL (c::r) with|none=>none|some (p,n)=>(clsL ((c::r).drop n)).map fun x=>(p::x.1,n+x.2):=by
 cases h:rdl (c::r) with
 |none=>rw[zqe h hc,zx1 h]
 |some x=>
  obtain⟨lo,n⟩:=x;by_cases hg:∃t hi m,(c::r).drop n=45::t/\rdl t=some (hi,m)
  ·obtain⟨t,hi,m,h1,h2⟩:=hg
   rw[zi3 h hc h1 h2,zno h h1 h2]
  ·have h3:∀t,(c::r).drop n=45::t->rdl t=none:=fun t ht=>by
    cases h2:rdl t with
    |none=>rfl
    |some y=>exact absurd ⟨t,y.1,y.2,ht,h2⟩ hg
   rw[zqf h hc h3,zx2 h h3]
def RngAt (R:Nat)(s:ByteArray)(rs:List (Nat × Nat))(w:World):Prop:=
 (w.cell? ⟨R,0,none⟩=some (.string s)/\w.cell? ⟨R,1,none⟩=some (.int .u64 (setW (inRs rs) 0))/\w.cell? ⟨R,2,none⟩=some (.int .u64 (setW (inRs rs) 1))/\w.cell? ⟨R,3,none⟩=some (.int .u64 (setW (inRs rs) 2))/\w.cell? ⟨R,4,none⟩=some (.int .u64 (setW (inRs rs) 3)))/\∀o,w.frozen? ⟨R,o,none⟩=false
theorem RngAt.lt {R:Nat}{s:ByteArray}{rs:List (Nat × Nat)}{w:World}(h:RngAt R s rs w):R<w.heap.size:=zac h.1.1
theorem RngAt.below {R n:Nat}{s:ByteArray}{rs:List (Nat × Nat)}{w w':World}(h:RngAt R s rs w)(hb:Below n w w')(hR:R<n):RngAt R s rs w':=by
 obtain⟨⟨h0,h1,h2,h3,h4⟩,hf⟩:=h;have hc:=bcell hb;exact⟨⟨by rw[hc.1 _ _ hR];exact h0,by rw[hc.1 _ _ hR];exact h1,by rw[hc.1 _ _ hR];exact h2,by rw[hc.1 _ _ hR];exact h3,by rw[hc.1 _ _ hR];exact h4⟩,fun o=>by rw[hc.2 _ _ hR];exact hf o⟩
theorem RngAt.drew {R:Nat}{s:ByteArray}{rs:List (Nat × Nat)}{w:World}(h:RngAt R s rs w):RngAt R s rs w.drew:=h
theorem z8r (R i:Nat)(s:ByteArray)(rs:List (Nat × Nat))(w:World)(hs:s.size<=2000000)(h:RngAt R s rs w)(hr:rd (bts s) (i:Int)=none) :
  Calls Tryz.prog 181 #[.pointer (some ⟨R,0,none⟩),.int .i64 (i:Int)] w fun e w'=>e=.returned (.tuple #[.int .i64 0,.bool false])/\w'=w:=by
 obtain⟨⟨c0,-⟩,-⟩:=h;have HD:=Lib.hid hr;clear hr;go_enter Tryz.func181,Tryz.ntmps181
 go_wp2_with (go_at_call 180;(with_reducible refine(zl4 s (i:Int) _ hs HD.out).mono ?_);rintro e w' ⟨rfl,hw⟩;obtain rfl:=hw.symm;clear hw)
 go_ret2
 exact⟨rfl,rfl⟩
theorem zr1 (s tl:ByteArray)(k:Nat)(ht:bts tl=(bts s).drop k){t:List Nat}(h:(bts s).drop k=45::t):Lib.hasPrefix tl.data.toList (⟨#[45]⟩:ByteArray).data.toList=true:=by
 rw[zcm,ht,show bts ⟨#[45]⟩=[45] from rfl,h];simp[List.isPrefixOf]
theorem z6j (s tl:ByteArray)(k:Nat)(ht:bts tl=(bts s).drop k)(h:∀t,(bts s).drop k≠45::t):Lib.hasPrefix tl.data.toList (⟨#[45]⟩:ByteArray).data.toList=false:=by
 rw[zcm,ht,show bts ⟨#[45]⟩=[45] from rfl];cases hd:(bts s).drop k with
 |nil=>rfl
 |cons c r=>
  simp[List.isPrefixOf];rintro rfl;exact h r hd
theorem zga (rs:List (Nat × Nat))(lo hi:Nat)(j:Nat):(inRs rs j || inR lo (hi+1) j)=inRs (rs++[(lo,hi)]) j:=by
 rw[zuf];unfold inR;congr 1;rw[Bool.eq_iff_iff];simp;omega
theorem zx3 (lo hi:Nat)(w:World)(h1:lo<256)(h3:hi<256) :
  Calls Tryz.prog 192 #[.int .u8 (lo:Int),.int .u8 (hi:Int)] w
   fun e w'=>e=.returned (.agg #[.int .u64 (setW (inR lo (hi+1)) 0),.int .u64 (setW (inR lo (hi+1)) 1),.int .u64 (setW (inR lo (hi+1)) 2),.int .u64 (setW (inR lo (hi+1)) 3)])/\Below w.heap.size w w':=
 zur (lo:Int) (hi:Int) w (by omega) (by omega) (by omega) (by omega)
theorem znq {n:Nat}{w w':World}(h:Below n w.drew w'):Below n w w':=⟨h.os,h.tape,h.output,h.size,h.block⟩
theorem cso {w:World}{R o o':Nat}{v:Value}(h:o≠o'):(w.setCell ⟨R,o,none⟩ v).cell? ⟨R,o',none⟩=w.cell? ⟨R,o',none⟩:=World.cell?_setCell_other _ _ _ _ (fun e=>by cases e;exact h rfl)
theorem css {w:World}{R o:Nat}{u v:Value}(h:w.cell? ⟨R,o,none⟩=some u):(w.setCell ⟨R,o,none⟩ v).cell? ⟨R,o,none⟩=some v:=World.cell?_setCell_same _ _ _ h
theorem RngAt.stored {R:Nat}{s:ByteArray}{rs rs':List (Nat × Nat)}{w:World}(h:RngAt R s rs w){a b c d:Int}(ha:a=setW (inRs rs') 0)(hb:b=setW (inRs rs') 1)(hc:c=setW (inRs rs') 2)(hd:d=setW (inRs rs') 3) :
  RngAt R s rs' ((((w.setCell ⟨R,1,none⟩ (.int .u64 a)).setCell ⟨R,2,none⟩ (.int .u64 b)).setCell ⟨R,3,none⟩ (.int .u64 c)).setCell ⟨R,4,none⟩ (.int .u64 d)):=by
 obtain⟨⟨h0,h1,h2,h3,h4⟩,hf⟩:=h;subst ha hb hc hd;refine⟨⟨?_,?_,?_,?_,?_⟩,fun o=>?_⟩
 ·rw[cso (by decide),cso (by decide),cso (by decide),cso (by decide)];exact h0
 ·rw[cso (by decide),cso (by decide),cso (by decide)];exact css h1
 ·rw[cso (by decide),cso (by decide)];exact css (by rw[cso (by decide)];exact h2)
 ·rw[cso (by decide)];exact css (by rw[cso (by decide),cso (by decide)];exact h3)
 ·exact css (by rw[cso (by decide),cso (by decide),cso (by decide)];exact h4)
 ·rw[World.frozen?_setCell,World.frozen?_setCell,World.frozen?_setCell,World.frozen?_setCell];exact hf o
theorem zx4 (R i lo hi n1 n:Nat)(s:ByteArray)(rs:List (Nat × Nat))(w:World)(hs:s.size<=2000000)(h:RngAt R s rs w)(hr:rd (bts s) (i:Int)=some (lo,n1))
  (hw:(∃t m,(bts s).drop (i+n1)=45::t/\rd (bts s) ((i:Int)+(n1:Int)+1)=some (hi,m)/\n=n1+1+m)∨((∃t,(bts s).drop (i+n1)=45::t)/\rd (bts s) ((i:Int)+(n1:Int)+1)=none/\hi=lo/\n=n1)∨((∀t,(bts s).drop (i+n1)≠45::t)/\hi=lo/\n=n1)) :
  Calls Tryz.prog 181 #[.pointer (some ⟨R,0,none⟩),.int .i64 (i:Int)] w fun e w'=>e=.returned (.tuple #[.int .i64 ((i:Int)+(n:Int)),.bool true])/\RngAt R s (rs++[(lo,hi)]) w'/\Below R w w':=by
 have HH:=Lib.hid h;obtain⟨⟨c0,-⟩,-⟩:=h;obtain⟨p0,p1,p2,p3⟩:=zfg hr;have HD:=Lib.hid hr;have ksl:∀w,(Instr.slice 9 (.string s) (some (.int .i64 ((i:Int)+(n1:Int)))) none none).run Tryz.prog w=.ok (.string (s.extract (i+n1) s.size)) w:=fun w=>run_slice_string_l (P:=Tryz.prog) (w:=w) 9 s Tryz.underlying9 .i64 ((i:Int)+(n1:Int)) (by omega) (by omega)
 have hbt:=zk0 s (i+n1);generalize s.extract (i+n1) s.size=tl at ksl hbt;obtain⟨b,hb⟩:∃b,Lib.hasPrefix tl.data.toList (⟨#[45]⟩:ByteArray).data.toList=b:=⟨_,rfl⟩;have HP:Hid (∀w,Calls Tryz.prog 170 #[.string tl,.string ⟨#[45]⟩] w fun e w'=>e=.returned (.bool b)/\w'=w):=Lib.hid (fun w=>by rw[<-hb];exact zdw tl ⟨#[45]⟩ w);have HT:=Lib.hid hbt;have HW:=Lib.hid hw;have HQ:=Lib.hid hb;clear hr hbt hw hb;go_enter Tryz.func181,Tryz.ntmps181
 go_upto_if 30 with(first
  |(go_at_call 180;(with_reducible refine(ziq s (i:Int) lo n1 _ hs HD.out).mono ?_);rintro e w' ⟨rfl,hw⟩;obtain rfl:=hw.symm;clear hw)
  |(go_at_call 170;(with_reducible refine(HP.out _).mono ?_);rintro e w' ⟨rfl,hw⟩;obtain rfl:=hw.symm;clear hw))
 go_cut [4,7] (fun a b wx=>a=.int .i64 ((i:Int)+(n:Int))/\b=.int .u8 (hi:Int)/\wx=w)
 case first=>
  rcases HW.out with⟨t,m,h1,h2,rfl⟩|⟨⟨t,h1⟩,h2,rfl,rfl⟩|⟨h1,rfl,rfl⟩
  ·obtain rfl:b=true:=HQ.out.symm.trans (zr1 s tl _ HT.out h1)
   obtain⟨q0,q1,q2,q3⟩:=zfg h2;have HE:=Lib.hid h2;clear h1 h2
   go_wp2_with (go_at_call 180;(with_reducible refine(ziq s ((i:Int)+(n1:Int)+1) hi m _ hs HE.out).mono ?_);rintro e w' ⟨rfl,hw⟩;obtain rfl:=hw.symm;clear hw)
   go_meet
   exact⟨by congr 1;omega,rfl,rfl⟩
  ·obtain rfl:b=true:=HQ.out.symm.trans (zr1 s tl _ HT.out h1)
   have HE:=Lib.hid h2;clear h1 h2
   go_wp2_with (go_at_call 180;(with_reducible refine(zl4 s ((i:Int)+(n:Int)+1) _ hs HE.out).mono ?_);rintro e w' ⟨rfl,hw⟩;obtain rfl:=hw.symm;clear hw)
   go_meet
   exact⟨rfl,rfl,rfl⟩
  ·obtain rfl:b=false:=HQ.out.symm.trans (z6j s tl _ HT.out h1)
   clear h1;go_wp2
   go_meet
   exact⟨rfl,rfl,rfl⟩
 case rest=>
  obtain⟨rfl,rfl,rfl⟩:=hcut;have q3:hi<256:=by
   rcases HW.out with⟨t,m,h1,h2,-⟩|⟨-,-,rfl,-⟩|⟨-,rfl,-⟩
   ·exact(zfg h2).2.2.2
   ·exact p3
   ·exact p3
  have hz:=HH.out.lt;obtain⟨⟨d0,d1,d2,d3,d4⟩,hf⟩:=HH.out;have hf1:=hf 1;have hf2:=hf 2;have hf3:=hf 3;have hf4:=hf 4;clear hf c0;have HU:=Lib.hid (zuq (inRs rs) (inR lo (hi+1)));have HB:=Lib.hid (Below.refl wc.drew.heap.size wc.drew);clear HQ HW HT HP HD ksl
  go_wp2_with fail
  go_region_with (first
   |(go_at_call 192;(with_reducible refine(zx3 lo hi _ p3 q3).mono ?_);rintro e w1 ⟨rfl,hb1⟩;obtain⟨⟨d0,d1,d2,d3,d4⟩,hf⟩:=HH.out.drew.below hb1 hz;have hf1:=hf 1;have hf2:=hf 2;have hf3:=hf 3;have hf4:=hf 4;have HB1:=Lib.hid hb1;have hz1:=Nat.lt_of_lt_of_le hz hb1.size;have HH1:=Lib.hid (HH.out.drew.below hb1 hz);clear hf hb1)
   |(go_at_call 191;(with_reducible refine(HU.out _).mono ?_);rintro e w2 ⟨rfl,hb2⟩;obtain⟨⟨d0,d1,d2,d3,d4⟩,hf⟩:=HH1.out.below hb2 hz1;have hf1:=hf 1;have hf2:=hf 2;have hf3:=hf 3;have hf4:=hf 4;have HB2:=Lib.hid hb2;clear hf hb2))
  all_goals
   have HR2:Hid (RngAt R s rs w2):=Lib.hid (HH1.out.below HB2.out hz1);clear d0 HU HH HH1;go_wp2
   go_ret2
   refine⟨rfl,HR2.out.stored (zct (fun j _=>zga rs lo hi _)) (zct (fun j _=>zga rs lo hi _)) (zct (fun j _=>zga rs lo hi _)) (zct (fun j _=>zga rs lo hi _)),?_⟩;have hB:Below R wc w2:=by
    have h1:=HB1.out;exact(znq (h1.mono (Nat.le_of_lt hz))).trans (HB2.out.mono (Nat.le_of_lt hz1))
   exact(((hB.setCell (p:=⟨R,1,none⟩) (Nat.le_refl _) _).setCell (p:=⟨R,2,none⟩) (Nat.le_refl _) _).setCell (p:=⟨R,3,none⟩) (Nat.le_refl _) _).setCell (p:=⟨R,4,none⟩) (Nat.le_refl _) _
def ClsParts (o:Option (List (Nat × Nat) × Nat))(R p:Nat)(s:ByteArray)(w:World)(e:Ending)(w':World):Prop:=
 match o with
 |none=>e=.returned (.tuple #[.int .i64 0,.bool false])/\Below R w w'
 |some (rs,m)=>e=.returned (.tuple #[.int .i64 ((p+m:Nat):Int),.bool true])/\RngAt R s rs w'/\Below R w w'
theorem ClsParts.no {o:Option (List (Nat × Nat) × Nat)}{R p:Nat}{s:ByteArray}{w w':World}(h:o=none)(hb:Below R w w'):ClsParts o R p s w (.returned (.tuple #[.int .i64 0,.bool false])) w':=by
 subst h;exact⟨rfl,hb⟩
theorem ClsParts.yes {o:Option (List (Nat × Nat) × Nat)}{R p m:Nat}{rs:List (Nat × Nat)}{s:ByteArray}{x:Int}{w w':World}(h:o=some (rs,m))(hx:x=((p+m:Nat):Int))(hl:RngAt R s rs w')(hb:Below R w w'):ClsParts o R p s w (.returned (.tuple #[.int .i64 x,.bool true])) w':=by
 subst h hx;exact⟨rfl,hl,hb⟩
theorem z6k (R i:Nat)(s:ByteArray)(rs:List (Nat × Nat))(w:World)(hs:s.size<=2000000)(h:RngAt R s rs w)(p:Nat × Nat)(n:Nat)(hr:rgL ((bts s).drop i)=some (p,n)) :
  (Calls Tryz.prog 181 #[.pointer (some ⟨R,0,none⟩),.int .i64 (i:Int)] w fun e w'=>e=.returned (.tuple #[.int .i64 ((i:Int)+(n:Int)),.bool true])/\RngAt R s (rs++[p]) w'/\Below R w w')/\1<=n/\i+n<=s.size:=by
 cases h1:rdl ((bts s).drop i) with
 |none=>rw[zx1 h1] at hr;cases hr
 |some x=>
  obtain⟨lo,n1⟩:=x;have hr1:rd (bts s) (i:Int)=some (lo,n1):=by rw[ze5];exact h1
  have hb1:=zfg hr1;by_cases hg:∃t hi m,((bts s).drop i).drop n1=45::t/\rdl t=some (hi,m)
  ·obtain⟨t,hi,m,h2,h3⟩:=hg
   rw[zno h1 h2 h3] at hr;rw[List.drop_drop] at h2;have ht:t=(bts s).drop (i+n1+1):=by
    have:=congrArg (List.drop 1) h2;rw[List.drop_drop] at this;exact this.symm
   have hr2:rd (bts s) ((i:Int)+(n1:Int)+1)=some (hi,m):=by
    rw[show(i:Int)+(n1:Int)+1=((i+n1+1:Nat):Int) by omega,ze5,<-ht];exact h3
   have hb2:=zfg hr2;cases hr;exact⟨zx4 R i lo hi n1 (n1+1+m) s rs w hs h hr1 (Or.inl ⟨t,m,h2,hr2,rfl⟩),by omega,by omega⟩
  ·have h3:∀t,((bts s).drop i).drop n1=45::t->rdl t=none:=fun t ht=>by
    cases h2:rdl t with
    |none=>rfl
    |some y=>exact absurd ⟨t,y.1,y.2,ht,h2⟩ hg
   rw[zx2 h1 h3] at hr;obtain⟨rfl,e2⟩:=Prod.mk.inj (Option.some.inj hr);subst e2;rw[List.drop_drop] at h3;refine⟨zx4 R i lo lo n1 n1 s rs w hs h hr1 (Or.inr ?_),by omega,by omega⟩;by_cases hd:∃t,(bts s).drop (i+n1)=45::t
   ·obtain⟨t,ht⟩:=hd
    have ht2:t=(bts s).drop (i+n1+1):=by
     have:=congrArg (List.drop 1) ht;rw[List.drop_drop] at this;exact this.symm
    exact Or.inl ⟨⟨t,ht⟩,by rw[show(i:Int)+(n1:Int)+1=((i+n1+1:Nat):Int) by omega,ze5,<-ht2];exact h3 t ht,rfl,rfl⟩
   ·exact Or.inr ⟨fun t ht=>hd ⟨t,ht⟩,rfl,rfl⟩
theorem znr (R p:Nat)(s:ByteArray)(w:World)(hs:s.size<=2000000)(hp:p<=s.size)(h:RngAt R s [] w) :
  Calls Tryz.prog 178 #[.string s,.int .i64 (p:Int),.int .u8 93,.func (.func 181) #[.pointer (some ⟨R,0,none⟩)] #[]] w (ClsParts (clsL ((bts s).drop p)) R p s w):=by
 have HH:=Lib.hid h;clear h;go_enter Tryz.func178,Tryz.ntmps178;go_wp2
 go_loopw [1,9] (fun c _ wx=>∃(i:Nat) (rs:List (Nat × Nat)),p<=i/\i<=s.size/\c=.int .i64 i/\RngAt R s rs wx/\Below R w wx/\clsL ((bts s).drop p)=(clsL ((bts s).drop i)).map fun x=>(rs++x.1,(i-p)+x.2)) (fun c _ _=>s.size-(intOf c).toNat)
 case atStart=>exact⟨p,[],Nat.le_refl _,hp,rfl,HH.out,Below.refl _ _,by simp⟩
 case round=>
  obtain⟨i,rs,hpi,hi,rfl,hl,hb,hu⟩:=hrel;have HU:=Lib.hid hu;have HL:=Lib.hid hl;have HB:=Lib.hid hb;clear hu hl hb;by_cases hlt:i<s.size
  ·have hdi:=zbd s i hlt
   have hlt':(i:Int)<(s.size:Int):=by omega
   by_cases hd:s[i].toNat=93
   ·have hr:clsL ((bts s).drop p)=some (rs,(i-p)+1):=by
     rw[HU.out,hdi,hd,zqd];simp
    have HR:=Lib.hid hr;have hd':((s[i].toNat:Int) != 93)=false:=by rw[hd];rfl
    have e1:((i:Int) == (s.size:Int))=false:=by rw[beq_eq_false_iff_ne];omega
    clear hr hdi hd;go_wp2
    go_ret2
    exact ClsParts.yes HR.out (by omega) HL.out HB.out
   ·have hd':((s[i].toNat:Int) != 93)=true:=by rw[bne_iff_ne];omega
    cases hr:rgL ((bts s).drop i) with
    |none=>
     have hr0:rd (bts s) (i:Int)=none:=by
      cases h1:rdl ((bts s).drop i) with
      |none=>rw[ze5];exact h1
      |some x=>
       exfalso;unfold rgL at hr;rw[h1] at hr;simp only at hr;split at hr
       ·split at hr<;>cases hr
       ·cases hr
     have hr':clsL ((bts s).drop p)=none:=by
      rw[HU.out,hdi,znp hd,<-hdi,hr];rfl
     have HR:=Lib.hid hr';have HDD:=Lib.hid hr0;clear hr hr0 hr' hdi hd
     go_wp2_with (go_at_call 181;(with_reducible refine(z8r R i s rs _ hs HL.out HDD.out).mono ?_);rintro e w' ⟨rfl,hw⟩;obtain rfl:=hw.symm;clear hw)
     go_ret2
     exact ClsParts.no HR.out HB.out
    |some x=>
     obtain⟨q,n⟩:=x;have hr':clsL ((bts s).drop p)=(clsL ((bts s).drop (i+n))).map fun x=>((rs++[q])++x.1,(i+n-p)+x.2):=by
      rw[HU.out,hdi,znp hd,<-hdi,hr];simp only;rw[List.drop_drop,zzj];rw[show i-p+n=i+n-p by omega]
     obtain⟨hc,hn1,hn2⟩:=z6k R i s rs wr hs HL.out q n hr;have HR:=Lib.hid hr';have HC:=Lib.hid hc;clear hr hr' hdi hd hc
     go_wp2_with (go_at_call 181;(with_reducible refine HC.out.mono ?_);rintro e w' ⟨rfl,hl2,hb2⟩;have HL2:=Lib.hid hl2;have HB2:=Lib.hid hb2;clear hl2 hb2)
     go_roundw
     case rel=>exact⟨i+n,rs++[q],by omega,by omega,by go_num,HL2.out,HB.out.trans HB2.out,HR.out⟩
     case measure=>simp[intOf];omega
  ·have hr:clsL ((bts s).drop p)=none:=by
    rw[HU.out,List.drop_eq_nil_of_le (show(bts s).length<=i by rw[zag];omega),zqc];rfl
   have HR:=Lib.hid hr;have hlt':decide ((i:Int)<(s.size:Int))=false:=by rw[decide_eq_false_iff_not];omega
   have e1:((i:Int) == (s.size:Int))=true:=by rw[beq_iff_eq];omega
   clear hr;go_wp2
   go_ret2
   exact ClsParts.no HR.out HB.out
end
section
open Go.RowKit
theorem Zero7.new2 (w:World):Zero7 w.heap.size (w.alloc (.cells #[.int .i64 0,.int .i64 0,.string ⟨#[]⟩,.int .u64 0,.int .u64 0,.int .u64 0,.int .u64 0] 168)):=by
 unfold Zero7;refine⟨⟨?_,?_,?_,?_,?_,?_,?_⟩,fun o=>?_⟩<;>simp
def clsW (s:ByteArray)(w:World):World:=(w.alloc (Obj.cells #[Value.int IntKind.i64 0,Value.int IntKind.i64 0,Value.string { data:=#[] },Value.int IntKind.u64 0,Value.int IntKind.u64 0,Value.int IntKind.u64 0,Value.int IntKind.u64 0] 168)).alloc (Obj.cells #[Value.string s,Value.int IntKind.u64 0,Value.int IntKind.u64 0,Value.int IntKind.u64 0,Value.int IntKind.u64 0] 226)
theorem zj9 (s:ByteArray)(w:World):Below w.heap.size w (clsW s w):=((Below.refl _ _).alloc (Nat.le_refl _) _).alloc (by simp) _
theorem zns (s:ByteArray)(w:World):Zero7 w.heap.size (clsW s w):=(Zero7.new2 w).below (n:=w.heap.size+1) ((Below.refl _ _).alloc (by simp) _) (by omega)
theorem zx5 (s:ByteArray)(w:World):RngAt (w.heap.size+1) s [] (clsW s w):=by
 unfold RngAt;simp only[zc0];unfold clsW;refine⟨⟨?_,?_,?_,?_,?_⟩,fun o=>?_⟩
 all_goals first
  |(rw[World.cell?_alloc_at _ _ _ _ (by simp)];rfl)
  |rw[World.frozen?_alloc_at _ _ _ _ (by simp)]
def PClsIs (o:Option (List (Nat × Nat) × Nat))(k:Nat)(w:World)(e:Ending)(w':World):Prop:=
 match o with
 |none=>e=.returned (.tuple #[.agg #[.int .i64 0,.int .i64 0,.string ⟨#[]⟩,.int .u64 0,.int .u64 0,.int .u64 0,.int .u64 0],.int .i64 0,.bool false])/\Below w.heap.size w w'
 |some (rs,m)=>e=.returned (.tuple #[.agg #[.int .i64 13,.int .i64 0,.string ⟨#[]⟩,.int .u64 (setW (inRs rs) 0),.int .u64 (setW (inRs rs) 1),.int .u64 (setW (inRs rs) 2),.int .u64 (setW (inRs rs) 3)],.int .i64 ((k+1+m:Nat):Int),.bool true])/\Below w.heap.size w w'
theorem PClsIs.no {o:Option (List (Nat × Nat) × Nat)}{k:Nat}{w w':World}(h:o=none)(hb:Below w.heap.size w w') :
  PClsIs o k w (.returned (.tuple #[.agg #[.int .i64 0,.int .i64 0,.string ⟨#[]⟩,.int .u64 0,.int .u64 0,.int .u64 0,.int .u64 0],.int .i64 0,.bool false])) w':=by
 subst h;exact⟨rfl,hb⟩
theorem PClsIs.yes {o:Option (List (Nat × Nat) × Nat)}{k m:Nat}{rs:List (Nat × Nat)}{x:Int}{w w':World}(h:o=some (rs,m))(hx:x=((k+1+m:Nat):Int))(hb:Below w.heap.size w w') :
  PClsIs o k w (.returned (.tuple #[.agg #[.int .i64 13,.int .i64 0,.string ⟨#[]⟩,.int .u64 (setW (inRs rs) 0),.int .u64 (setW (inRs rs) 1),.int .u64 (setW (inRs rs) 2),.int .u64 (setW (inRs rs) 3)],.int .i64 x,.bool true])) w':=by
 subst h hx;exact⟨rfl,hb⟩
theorem z12 (s:ByteArray)(k:Nat)(w:World)(hs:s.size<=1050000)(hlt:k<s.size)(hr:clsL ((bts s).drop (k+1))=none) :
  Calls Tryz.prog 169 #[.string s,.int .i64 (k:Int)] w (PClsIs none k w):=by
 have hlt':(k:Int)<(s.size:Int):=by omega
 have hc:Calls Tryz.prog 178 #[.string s,.int .i64 ((k:Int)+1),.int .u8 93,.func (.func 181) #[.pointer (some ⟨w.heap.size+1,0,none⟩)] #[]] (clsW s w) fun e w'=>e=.returned (.tuple #[.int .i64 0,.bool false])/\Below (w.heap.size+1) (clsW s w) w':=by
  have h:=znr (w.heap.size+1) (k+1) s (clsW s w) (by omega) (by omega) (zx5 s w);unfold ClsParts at h;rw[hr] at h;exact h
 unfold clsW at hc;have HC:=Lib.hid hc;clear hc hr;go_enter Tryz.func169,Tryz.ntmps169
 go_wp2_with (go_at_call 178;refine HC.out.mono ?_;rintro e w2 ⟨rfl,hb⟩;obtain⟨⟨d0,d1,d2,d3,d4,d5,d6⟩,hfr⟩:=(zns s w).below hb (by omega);have HB:=Lib.hid ((zj9 s w).trans (hb.mono (Nat.le_succ _)));clear hb)
 refine bodyPost_ret (v:=.tuple #[.agg #[.int .i64 0,.int .i64 0,.string ⟨#[]⟩,.int .u64 0,.int .u64 0,.int .u64 0,.int .u64 0],.int .i64 0,.bool false]) (by simp[results,Tryz.results169,go_sem,d0,d1,d2,d3,d4,d5,d6]) rfl (PClsIs.no rfl ?_);exact za8 HB.out _ _ _ _ _ _ _
theorem zx6 (s:ByteArray)(k m:Nat)(rs:List (Nat × Nat))(w:World)(hs:s.size<=1050000)(hlt:k<s.size)(hr:clsL ((bts s).drop (k+1))=some (rs,m)) :
  Calls Tryz.prog 169 #[.string s,.int .i64 (k:Int)] w (PClsIs (some (rs,m)) k w):=by
 have hlt':(k:Int)<(s.size:Int):=by omega
 have hc:Calls Tryz.prog 178 #[.string s,.int .i64 ((k:Int)+1),.int .u8 93,.func (.func 181) #[.pointer (some ⟨w.heap.size+1,0,none⟩)] #[]] (clsW s w) fun e w'=>e=.returned (.tuple #[.int .i64 ((k+1+m:Nat):Int),.bool true])/\RngAt (w.heap.size+1) s rs w'/\Below (w.heap.size+1) (clsW s w) w':=by
  have h:=znr (w.heap.size+1) (k+1) s (clsW s w) (by omega) (by omega) (zx5 s w);unfold ClsParts at h;rw[hr] at h;exact h
 unfold clsW at hc;obtain⟨n,hn⟩:∃n:Nat,k+1+m=n:=⟨_,rfl⟩;rw[hn] at hc;have HN:=Lib.hid hn;have HC:=Lib.hid hc;clear hc hr hn;go_enter Tryz.func169,Tryz.ntmps169
 go_wp2_with (go_at_call 178;refine HC.out.mono ?_;rintro e w2 ⟨rfl,hl,hb⟩;obtain⟨⟨d0,d1,d2,d3,d4,d5,d6⟩,hfr⟩:=(zns s w).below hb (by omega);obtain⟨⟨-,c1,c2,c3,c4⟩,-⟩:=hl;have HB:=Lib.hid ((zj9 s w).trans (hb.mono (Nat.le_succ _)));clear hb)
 refine bodyPost_ret (v:=.tuple #[.agg #[.int .i64 13,.int .i64 0,.string ⟨#[]⟩,.int .u64 (setW (inRs rs) 0),.int .u64 (setW (inRs rs) 1),.int .u64 (setW (inRs rs) 2),.int .u64 (setW (inRs rs) 3)],.int .i64 (n:Int),.bool true]) (by simp[results,Tryz.results169,go_sem,d0,d1,d2,d3,d4,d5,d6]) rfl (PClsIs.yes rfl (by rw[HN.out]) ?_);exact za8 HB.out _ _ _ _ _ _ _
theorem ztp (s:ByteArray)(k:Nat)(w:World)(hs:s.size<=1050000)(hlt:k<s.size) :
  Calls Tryz.prog 169 #[.string s,.int .i64 (k:Int)] w (PClsIs (clsL ((bts s).drop (k+1))) k w):=by
 cases hr:clsL ((bts s).drop (k+1)) with
 |none=>exact z12 s k w hs hlt hr
 |some x=>obtain⟨rs,m⟩:=x;exact zx6 s k m rs w hs hlt hr
end
open Go.RowKit
def PTokIs (o:Option (Tok × Nat))(w:World)(e:Ending)(w':World):Prop:=
 match o with
 |none=>e=.returned (.tuple #[.agg #[.int .i64 0,.int .i64 0,.string ⟨#[]⟩,.int .u64 0,.int .u64 0,.int .u64 0,.int .u64 0],.int .i64 0,.bool false])/\Below w.heap.size w w'
 |some (t,n)=>e=.returned (.tuple #[.agg #[.int .i64 (t.kind:Int),.int .i64 0,.string (strOf t.text),.int .u64 (setW (inRs t.rs) 0),.int .u64 (setW (inRs t.rs) 1),.int .u64 (setW (inRs t.rs) 2),.int .u64 (setW (inRs t.rs) 3)],.int .i64 (n:Int),.bool true])/\Below w.heap.size w w'
theorem PTokIs.no {o:Option (Tok × Nat)}{w w':World}(h:o=none)(hb:Below w.heap.size w w') :
  PTokIs o w (.returned (.tuple #[.agg #[.int .i64 0,.int .i64 0,.string ⟨#[]⟩,.int .u64 0,.int .u64 0,.int .u64 0,.int .u64 0],.int .i64 0,.bool false])) w':=by
 subst h;exact⟨rfl,hb⟩
theorem PTokIs.plain {o:Option (Tok × Nat)}{w w':World}{k a n:Nat}{t:List Nat}{x y:Int}{s:ByteArray}(h:o=some (⟨a,k,t,[]⟩,n))(ha:x=a)(hs:s=strOf t)(hn:y=n)(hb:Below w.heap.size w w') :
  PTokIs o w (.returned (.tuple #[.agg #[.int .i64 x,.int .i64 0,.string s,.int .u64 0,.int .u64 0,.int .u64 0,.int .u64 0],.int .i64 y,.bool true])) w':=by
 subst h ha hs hn;refine⟨?_,hb⟩;simp only[zc0]
theorem PTokIs.cls {o:Option (Tok × Nat)}{w w':World}{k n:Nat}{rs:List (Nat × Nat)}{y:Int}(h:o=some (⟨13,k,[],rs⟩,n))(hn:y=n)(hb:Below w.heap.size w w') :
  PTokIs o w (.returned (.tuple #[.agg #[.int .i64 13,.int .i64 0,.string ⟨#[]⟩,.int .u64 (setW (inRs rs) 0),.int .u64 (setW (inRs rs) 1),.int .u64 (setW (inRs rs) 2),.int .u64 (setW (inRs rs) 3)],.int .i64 y,.bool true])) w':=by
 subst h hn;exact⟨rfl,hb⟩
def sgN (i:Nat):Nat:=if i=2 then 2 else 1
theorem z6l {k c:Nat}{r:List Nat}(hl:letB c true=false)(h91:c≠91)(hq:¬(c=39∨c=34)):tokL k (c::r)=(prF 2 sgL (c::r)).map fun i=>(⟨i,k,[],[]⟩,k+sgN i):=by
 rw[zu0];by_cases ha:c=60/\r.head?=some 45
 ·rw[if_pos ha,zb2 hl ha];rfl
 ·rw[if_neg ha]
  cases hs:signK c with
  |none=>rw[zhb hl ha hs h91 hq];rfl
  |some i=>
   rw[zea hl ha hs];have:=zoc _ _ _ _ hs;show _=some (_,k+sgN i);unfold sgN;rw[if_neg (by omega)]
theorem zep (w:World):Below w.heap.size w (w.alloc (.cells #[.int .i64 0,.int .i64 0,.string ⟨#[]⟩,.int .u64 0,.int .u64 0,.int .u64 0,.int .u64 0] 168)):=(Below.refl _ w).alloc (Nat.le_refl _) _
theorem zav (w:World)(o:Obj):(w.alloc o).heap.size=w.heap.size+1:=by simp
theorem z13 (s:ByteArray)(k:Nat)(w:World)(hs:s.size<=1050000)(hlt:k<s.size)(h91:s[k].toNat=91) :
  Calls Tryz.prog 160 #[.string s,.int .i64 (k:Int)] w (PTokIs (tokL k ((bts s).drop k)) w):=by
 have hlt':(k:Int)<(s.size:Int):=by omega
 have hq:tokL k ((bts s).drop k)=(clsL ((bts s).drop (k+1))).map fun x=>(⟨13,k,[],x.1⟩,k+1+x.2):=by rw[zbd s k hlt,h91];exact zks
 have hc:=ztp s k;cases hr:clsL ((bts s).drop (k+1)) with
 |none=>
  rw[hr] at hc hq;have HQ:Hid (tokL k ((bts s).drop k)=none):=Lib.hid hq;have hc':∀w,Calls Tryz.prog 169 #[.string s,.int .i64 (k:Int)] w fun e w'=>e=.returned (.tuple #[.agg #[.int .i64 0,.int .i64 0,.string ⟨#[]⟩,.int .u64 0,.int .u64 0,.int .u64 0,.int .u64 0],.int .i64 0,.bool false])/\Below w.heap.size w w':=fun w=>hc w hs hlt
  have HC:=Lib.hid hc';clear hc hc' hq hr;go_enter Tryz.func160,Tryz.ntmps160
  go_wp2_with (go_at_call 169;(with_reducible refine(HC.out _).mono ?_);rintro e w2 ⟨rfl,hb⟩;obtain⟨⟨d0,d1,d2,d3,d4,d5,d6⟩,hfr⟩:=(Zero7.new2 w).below hb (by rw[zav];omega);have HB:=Lib.hid ((zep w).trans (hb.mono (by rw[zav];omega)));clear hb)
  refine bodyPost_ret (v:=.tuple #[.agg #[.int .i64 0,.int .i64 0,.string ⟨#[]⟩,.int .u64 0,.int .u64 0,.int .u64 0,.int .u64 0],.int .i64 0,.bool false]) (by simp[results,Tryz.results160,go_sem,d0,d1,d2,d3,d4,d5,d6]) rfl (PTokIs.no HQ.out ?_);exact za8 HB.out _ _ _ _ _ _ _
 |some x=>
  obtain⟨rs,m⟩:=x;rw[hr] at hc hq;have HQ:Hid (tokL k ((bts s).drop k)=some (⟨13,k,[],rs⟩,k+1+m)):=Lib.hid hq;have hc':∀w,Calls Tryz.prog 169 #[.string s,.int .i64 (k:Int)] w fun e w'=>e=.returned (.tuple #[.agg #[.int .i64 13,.int .i64 0,.string ⟨#[]⟩,.int .u64 (setW (inRs rs) 0),.int .u64 (setW (inRs rs) 1),.int .u64 (setW (inRs rs) 2),.int .u64 (setW (inRs rs) 3)],.int .i64 ((k+1+m:Nat):Int),.bool true])/\Below w.heap.size w w':=fun w=>hc w hs hlt
  obtain⟨n,hn⟩:∃n:Nat,k+1+m=n:=⟨_,rfl⟩;rw[hn] at hc' HQ;have HC:=Lib.hid hc';clear hc hc' hq hr hn;go_enter Tryz.func160,Tryz.ntmps160
  go_wp2_with (go_at_call 169;(with_reducible refine(HC.out _).mono ?_);rintro e w2 ⟨rfl,hb⟩;obtain⟨⟨d0,d1,d2,d3,d4,d5,d6⟩,hfr⟩:=(Zero7.new2 w).below hb (by rw[zav];omega);have HB:=Lib.hid ((zep w).trans (hb.mono (by rw[zav];omega)));clear hb)
  refine bodyPost_ret (v:=.tuple #[.agg #[.int .i64 13,.int .i64 0,.string ⟨#[]⟩,.int .u64 (setW (inRs rs) 0),.int .u64 (setW (inRs rs) 1),.int .u64 (setW (inRs rs) 2),.int .u64 (setW (inRs rs) 3)],.int .i64 (n:Int),.bool true]) (by simp[results,Tryz.results160,go_sem,d0,d1,d2,d3,d4,d5,d6]) rfl (PTokIs.cls HQ.out rfl ?_);exact za8 HB.out _ _ _ _ _ _ _
theorem zx7 (s:ByteArray)(k:Nat)(w:World)(hs:s.size<=1050000)(hlt:k<s.size)(hl:letB s[k].toNat true=true)(h91:s[k].toNat≠91)(h39:s[k].toNat≠39)(h34:s[k].toNat≠34) :
  Calls Tryz.prog 160 #[.string s,.int .i64 (k:Int)] w (PTokIs (tokL k ((bts s).drop k)) w):=by
 have hlt':(k:Int)<(s.size:Int):=by omega
 have hd:=zbd s k hlt;have hq:tokL k ((bts s).drop k)=some (⟨1,k,((bts s).drop k).take (idL true ((bts s).drop k)),[]⟩,k+idL true ((bts s).drop k)):=by rw[hd];exact zck hl
 have hn1:1<=idL true ((bts s).drop k):=by rw[hd,zhu hl];omega
 have hn2:=zue ((bts s).drop k) true;rw[List.length_drop,zag] at hn2;have hW:∀w,Calls Tryz.prog 152 #[.string s,.int .i64 (k:Int)] w fun e w'=>e=.returned (.int .i64 ((k+idL true ((bts s).drop k):Nat):Int))/\w'=w:=fun w=>zkz s k w (by omega) (by omega)
 obtain⟨n,hn⟩:∃n,k+idL true ((bts s).drop k)=n:=⟨_,rfl⟩;have hx:s.extract k n=strOf (((bts s).drop k).take (idL true ((bts s).drop k))):=by rw[zx0,<-hn,Nat.add_sub_cancel_left]
 rw[hn] at hW hq;have g1:k<n:=by omega
 have g2:n<=s.size:=by omega
 have g3:(k:Int)<(n:Int):=by omega
 have ksl:∀w,(Instr.slice 9 (.string s) (some (.int .i64 (k:Int))) (some (.int .i64 (n:Int))) none).run Tryz.prog w=.ok (.string (s.extract k n)) w:=fun w=>
  run_slice_string (P:=Tryz.prog) (w:=w) 9 s .i64 .i64 (k:Int) (n:Int) Tryz.underlying9 (by omega) (by omega) (by omega)
 have hxs:(s.extract k n).size<=2000000:=by rw[ByteArray.size_extract];omega
 generalize s.extract k n=tl at ksl hxs hx;have e1:=za2 (d:=s[k].toNat) (k:=91) (by omega);have e2:=za2 (d:=s[k].toNat) (k:=39) (by omega);have e3:=za2 (d:=s[k].toNat) (k:=34) (by omega);have HW:=Lib.hid hW;have HQ:=Lib.hid hq;have HX:=Lib.hid hx;clear hW hq hx hn hn1 hn2 hd hl h91 h39 h34;go_enter Tryz.func160,Tryz.ntmps160
 go_wp2_with (first
  |(go_at_call 152;(with_reducible refine(HW.out _).mono ?_);rintro e w' ⟨rfl,hw⟩;obtain rfl:=hw.symm;clear hw)
  |(go_at_call 85;(with_reducible refine(zed tl _ hxs).mono ?_);rintro e w2 ⟨rfl,hb⟩;obtain⟨⟨d0,d1,d2,d3,d4,d5,d6⟩,hfr⟩:=(Zero7.new2 w).below hb (by rw[zav];omega);have HB:=Lib.hid ((zep w).trans (hb.mono (by rw[zav];omega)));clear hb))
 refine bodyPost_ret (v:=.tuple #[.agg #[.int .i64 1,.int .i64 0,.string tl,.int .u64 0,.int .u64 0,.int .u64 0,.int .u64 0],.int .i64 (n:Int),.bool true]) (by simp[results,Tryz.results160,go_sem,d0,d1,d2,d3,d4,d5,d6]) rfl (PTokIs.plain HQ.out rfl HX.out rfl ?_);exact za8 HB.out _ _ _ _ _ _ _
theorem zx8 (s:ByteArray)(k:Nat)(w:World)(hs:s.size<=2000000)(hlt:k<s.size)(hl:letB s[k].toNat true=false) :
  Calls Tryz.prog 152 #[.string s,.int .i64 (k:Int)] w fun e w'=>e=.returned (.int .i64 (k:Int))/\w'=w:=by
 have h:=zkz s k w hs (by omega);rw[zbd s k hlt,zqb hl] at h;exact h
theorem zx9 (s:ByteArray)(k:Nat)(w:World)(hs:s.size<=1050000)(hlt:k<s.size)(hS:SignsAt w)(hl:letB s[k].toNat true=false)(h91:s[k].toNat≠91)(h39:s[k].toNat≠39)(h34:s[k].toNat≠34) :
  Calls Tryz.prog 160 #[.string s,.int .i64 (k:Int)] w (PTokIs (tokL k ((bts s).drop k)) w):=by
 have hlt':(k:Int)<(s.size:Int):=by omega
 have hd:=zbd s k hlt;have hq:tokL k ((bts s).drop k)=(prF 2 sgL ((bts s).drop k)).map fun i=>(⟨i,k,[],[]⟩,k+sgN i):=by rw[hd];exact z6l hl h91 (by omega)
 have hW:∀w,Calls Tryz.prog 152 #[.string s,.int .i64 (k:Int)] w fun e w'=>e=.returned (.int .i64 (k:Int))/\w'=w:=fun w=>zx8 s k w (by omega) hlt hl
 have ksl:∀w,(Instr.slice 9 (.string s) (some (.int .i64 (k:Int))) none none).run Tryz.prog w=.ok (.string (s.extract k s.size)) w:=fun w=>run_slice_string_l (P:=Tryz.prog) (w:=w) 9 s Tryz.underlying9 .i64 (k:Int) (by omega) (by omega)
 have hbt:=zk0 s k;generalize s.extract k s.size=tl at ksl hbt;have e1:=za2 (d:=s[k].toNat) (k:=91) (by omega);have e2:=za2 (d:=s[k].toNat) (k:=39) (by omega);have e3:=za2 (d:=s[k].toNat) (k:=34) (by omega);have hS1:SignsAt (w.alloc (.cells #[.int .i64 0,.int .i64 0,.string ⟨#[]⟩,.int .u64 0,.int .u64 0,.int .u64 0,.int .u64 0] 168)):=hS.kept (zep w) (Nat.le_refl _);have HS1:=Lib.hid hS1;have HW:=Lib.hid hW;have HQ:=Lib.hid hq;have HT:=Lib.hid hbt;clear hW hq hbt hd hl h91 h39 h34 hS hS1;go_enter Tryz.func160,Tryz.ntmps160
 go_wp2_with (go_at_call 152;(with_reducible refine(HW.out _).mono ?_);rintro e w' ⟨rfl,hw⟩;obtain rfl:=hw.symm;clear hw;have c0:=HS1.out 0 (by decide);have c1:=HS1.out 1 (by decide);have c2:=HS1.out 2 (by decide);have c3:=HS1.out 3 (by decide);have c4:=HS1.out 4 (by decide);have c5:=HS1.out 5 (by decide);have c6:=HS1.out 6 (by decide);have c7:=HS1.out 7 (by decide);have c8:=HS1.out 8 (by decide);have c9:=HS1.out 9 (by decide))
 rw[z4p];clear c0 c1 c2 c3 c4 c5 c6 c7 c8 c9
 go_loop [43] (fun c=>∃j:Nat,j<=10/\c=.int .i64 j/\prF 2 sgL ((bts s).drop k)=prF (2+j) (sgL.drop j) ((bts s).drop k)) (fun c=>10-(intOf c).toNat)
 case atStart=>exact⟨0,by omega,rfl,rfl⟩
 case round=>
  obtain⟨j,hj,rfl,he⟩:=hrel;have HE:=Lib.hid he;clear he;by_cases hltj:j<10
  ·have hltj':(j:Int)<10:=by omega
   have hix:=fun w=>zu1 w j hltj
   have hb:=z4n j hltj;have hdj:=zzv j hltj;have hlen:=z4o j hltj;rw[<-hb] at hdj hlen;rw[zag] at hlen;generalize sgS j=x at hix hb hdj hlen;cases hx:(bts x).isPrefixOf ((bts s).drop k)
   ·have hq:prF 2 sgL ((bts s).drop k)=prF (2+(j+1)) (sgL.drop (j+1)) ((bts s).drop k):=by rw[HE.out,hdj,zuy hx];rfl
    have hp:∀w,Calls Tryz.prog 170 #[.string tl,.string x] w fun e w'=>e=.returned (.bool false)/\w'=w:=fun w=>by
     have h:=zdw tl x w;rw[zcm,HT.out,hx] at h;exact h
    have HP:=Lib.hid hp;have HQ2:=Lib.hid hq;clear hq hb hdj hx hp hlen
    go_wp2_with (go_at_call 170;(with_reducible refine(HP.out _).mono ?_);rintro e w' ⟨rfl,hw⟩;obtain rfl:=hw.symm;clear hw)
    go_round
    case rel=>exact⟨j+1,by omega,by go_num,HQ2.out⟩
    case measure=>simp[intOf];omega
   ·have hq:tokL k ((bts s).drop k)=some (⟨2+j,k,[],[]⟩,k+x.size):=by
     rw[HQ.out,HE.out,hdj,zol hx,hlen];show some (_,k+sgN (2+j))=_;unfold sgN;by_cases h0:j=0
     ·subst h0;rfl
     ·rw[if_neg (by omega),if_neg h0]
    have hxz:x.size<=2:=by rw[hlen];split<;>omega
    have hp:∀w,Calls Tryz.prog 170 #[.string tl,.string x] w fun e w'=>e=.returned (.bool true)/\w'=w:=fun w=>by
     have h:=zdw tl x w;rw[zcm,HT.out,hx] at h;exact h
    have HP:=Lib.hid hp;have HQ2:=Lib.hid hq;clear hq hb hdj hx hp hlen
    go_wp2_with (go_at_call 170;(with_reducible refine(HP.out _).mono ?_);rintro e w' ⟨rfl,hw⟩;obtain rfl:=hw.symm;clear hw)
    refine bodyPost_ret (v:=.tuple #[.agg #[.int .i64 (2+(j:Int)),.int .i64 0,.string ⟨#[]⟩,.int .u64 0,.int .u64 0,.int .u64 0,.int .u64 0],.int .i64 ((k:Int)+(x.size:Int)),.bool true]) (by simp[results,Tryz.results160,go_sem]) rfl (PTokIs.plain HQ2.out (by omega) rfl (by omega) ?_)
    first
     |exact(Below.refl _ w).alloc (Nat.le_refl _) _
     |exact za8 (zep w) _ _ _ _ _ _ _
  ·obtain rfl:j=10:=by omega
   have hq:tokL k ((bts s).drop k)=none:=by rw[HQ.out,HE.out];rfl
   have HQ2:=Lib.hid hq;clear hq;go_wp2;refine bodyPost_ret (v:=.tuple #[.agg #[.int .i64 0,.int .i64 0,.string ⟨#[]⟩,.int .u64 0,.int .u64 0,.int .u64 0,.int .u64 0],.int .i64 0,.bool false]) (by simp[results,Tryz.results160,go_sem]) rfl (PTokIs.no HQ2.out ?_)
   first
    |exact(Below.refl _ w).alloc (Nat.le_refl _) _
    |exact za8 (zep w) _ _ _ _ _ _ _
end Go.Proofs.YthhppmehhdlmnaaGreatDoor
