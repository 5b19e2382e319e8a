/- The literal's closure, parts with it, and the program's literal. -/
import Derived.Deep.Cut
import Derived.Deep.DeepCutAuto
import Derived.BigRegion
import Derived.Deep.RegionHeld3
import Derived.Test.YtmopdlbpkiaoeaaGreatDoorPqH
set_option maxRecDepth 100000
set_option maxHeartbeats 2000000
open Go.IntKind renaming i64->jd, u64->jg
open Go.Value renaming int->je, string->jh, bool->ji, pointer->jj, tuple->jk
namespace Go.Proofs.YtmopdlbpkiaoeaaGreatDoor
open Go.IntWalk renaming i64_in->qaq
open Go.Lib renaming hid->qaa
open Go.Proofs.Tryz renaming prog->qab, underlying71->qbj
open Go.RowKit.Below renaming refl->qaf
open Nat renaming le_of_lt->qdb, le_refl->qac, le_trans->qal
variable {s:ByteArray}{B T base n:Nat}{o:Option (List Nat × Nat)}{w w':World}
section
open Go.RowKit
theorem zi9 {e:TypeId}{size:Nat}{v:Value}{xs:List Value}(h:w.ownsRow base e size v n xs){b o:Nat}(hb:b<base)(u:Value):(w.setCell ⟨b,o,none⟩ u).ownsRow base e size v n xs:=by
 refine h.kept (row:=some b) ⟨rfl,rfl,rfl,by simp[World.setCell],fun k _ hk=>Below.heap_setCell _ _ _ _ (fun e=>hk (by rw[e]))⟩ ?_;cases hv:v.ownBlock with
 |none=>exact .inl rfl
 |some g=>
  right;have:=(h.lt g hv).1;intro e;cases e;omega
theorem zgm {e:TypeId}{size:Nat}{v:Value}{xs:List Value}(h:w.ownsRow base e size v n xs):∃a c,v=.slice a n c:=by
 rcases h.2 with⟨rfl,rfl⟩|⟨g,cap,cur,rfl,-⟩
 ·exact⟨none,0,rfl⟩
 ·exact⟨_,cap,rfl⟩
def LitAt (B T base:Nat)(s:ByteArray)(acc:List Nat)(w:World):Prop:=
 (B<T/\T<base/\base<=w.heap.size)/\w.cell? ⟨B,0,none⟩=some (jh s)/\(∀o,w.frozen? ⟨T,o,none⟩=false)/\∃v,w.cell? ⟨T,0,none⟩=some v/\w.ownsRow base 5 1 v acc.length (u8s acc)
theorem z6k (B T base:Nat)(s:ByteArray)(acc:List Nat)(i:Nat)(w:World)(hs:s.size<=2000000)(h:LitAt B T base s acc w)(hal:acc.length<=2000000)(hr:rd (bts s) (i:Int)=none) :
  Calls qab 125 #[je jd (i:Int),jj (some ⟨B,0,none⟩),jj (some ⟨T,0,none⟩)] w fun e w'=>e=.returned (jk #[je jd 0,ji false])/\Below T w w':=by
 obtain⟨⟨h0,h1,h2⟩,c0,f1,v,c1,hs1⟩:=h;obtain⟨i0,hi0,hy0,hy1,hy2⟩:=info_parts infoU8;have HD:=qaa hr;have f0:=f1 0;clear hr f1;go_enter Tryz.func125,Tryz.ntmps125
 go_wp2_with (first
  |(go_at_call 126;(with_reducible refine(zly s (i:Int) _ hs HD.out).mono ?_);rintro e w' ⟨rfl,hw⟩;obtain rfl:=hw.symm;clear hw)
  |(
    at_builtin;refine wpList_append_own _ rfl _ _ 71 rfl base 5 i0 (je .u8 0) 1 1 qbj hi0 hy0 hy1 hy2 rfl ja _ _ _ rfl (hs1.alloc _) ⟨w.heap.size,0,none⟩ 1 1 [je .u8 (0:Int)] rfl rfl (zat _ _ _) (by simp[Value.oneCell']) (by unfold maxLen;omega) U (by simp;omega) ?_
    intro v' w2 hown' hgrow _;obtain⟨a',c',rfl⟩:=zgm hown';have hb2:Below base w w2:=((qaf _ w).alloc U (.cells #[_] 5)).grown hgrow (by simp;omega) (fun k e=>(hs1.lt k e).1);have d1:w2.cell? ⟨T,0,none⟩=some v:=by rw[(bcell hb2).1 _ _ h1];exact c1
    have g1:w2.frozen? ⟨T,0,none⟩=false:=by rw[(bcell hb2).2 _ _ h1];exact f0
    have HO:=qaa hown';have HB:=qaa hb2;clear hown' hgrow hb2))
 go_ret2
 exact⟨rfl,(HB.out.mono (qdb h1)).setCell (p:=⟨T,0,none⟩) (qac _) _⟩
theorem z4c (B T base:Nat)(s:ByteArray)(acc:List Nat)(i c n:Nat)(w:World)(hs:s.size<=2000000)(h:LitAt B T base s acc w)(hal:acc.length<=2000000)(hr:rd (bts s) (i:Int)=some (c,n)) :
  Calls qab 125 #[je jd (i:Int),jj (some ⟨B,0,none⟩),jj (some ⟨T,0,none⟩)] w fun e w'=>e=.returned (jk #[je jd ((i:Int)+(n:Int)),ji true])/\LitAt B T base s (acc++[c]) w'/\Below T w w':=by
 obtain⟨⟨h0,h1,h2⟩,c0,f1,v,c1,hs1⟩:=h;obtain⟨i0,hi0,hy0,hy1,hy2⟩:=info_parts infoU8;have HD:=qaa hr;have f0:=f1 0;obtain⟨p0,p1,p2,p3⟩:=zdz hr;have q1:(c:Int)<=255:=U
 have q2:(i:Int)+(n:Int)<=2000000:=U
 clear hr;have HF:=qaa f1;clear f1;go_enter Tryz.func125,Tryz.ntmps125
 go_wp2_with (first
  |(go_at_call 126;(with_reducible refine(zi8 s (i:Int) c n _ hs HD.out).mono ?_);rintro e w' ⟨rfl,hw⟩;obtain rfl:=hw.symm;clear hw)
  |(
    at_builtin;refine wpList_append_own _ rfl _ _ 71 rfl base 5 i0 (je .u8 0) 1 1 qbj hi0 hy0 hy1 hy2 rfl ja _ _ _ rfl (hs1.alloc _) ⟨w.heap.size,0,none⟩ 1 1 [je .u8 (c:Int)] rfl rfl (zat _ _ _) (by simp[Value.oneCell']) (by unfold maxLen;omega) U (by simp;omega) ?_
    intro v' w2 hown' hgrow _;obtain⟨a',c',rfl⟩:=zgm hown';have hb2:Below base w w2:=((qaf _ w).alloc U (.cells #[_] 5)).grown hgrow (by simp;omega) (fun k e=>(hs1.lt k e).1);have d1:w2.cell? ⟨T,0,none⟩=some v:=by rw[(bcell hb2).1 _ _ h1];exact c1
    have g1:w2.frozen? ⟨T,0,none⟩=false:=by rw[(bcell hb2).2 _ _ h1];exact f0
    have HO:=qaa hown';have HB:=qaa hb2;clear hown' hgrow hb2))
 go_ret2
 have hO:=HO.out;rw[<-zqx] at hO;refine⟨rfl,⟨⟨h0,h1,qal h2 (qal HB.out.size (by simp[World.setCell]))⟩,?_,fun o=>?_,_,?_,by simpa using zi9 hO h1 _⟩,(HB.out.mono (qdb h1)).setCell (p:=⟨T,0,none⟩) (qac _) _⟩
 ·rw[World.cell?_setCell_other (a:=⟨T,0,none⟩) (b:=⟨B,0,none⟩) (h:=fun e=>by cases e;omega),(bcell HB.out).1 _ _ U];exact c0
 ·rw[World.frozen?_setCell,(bcell HB.out).2 _ _ h1];exact HF.out o
 ·exact World.cell?_setCell_same _ _ _ d1
def LitParts (o:Option (List Nat × Nat))(B T base p:Nat)(s:ByteArray)(w:World)(e:Ending)(w':World):Prop:=
 match o with
 |none=>e=.returned (jk #[je jd 0,ji false])/\Below T w w'
 |some (l,m)=>e=.returned (jk #[je jd ((p+m:Nat):Int),ji true])/\LitAt B T base s l w'/\Below T w w'/\∀x,x ∈ l->x<256
theorem LitParts.no {p:Nat}(h:o=none)(hb:Below T w w'):LitParts o B T base p s w (.returned (jk #[je jd 0,ji false])) w':=by
 subst h;exact⟨rfl,hb⟩
theorem LitParts.yes {p m:Nat}{l:List Nat}{x:Int}(h:o=some (l,m))(hx:x=((p+m:Nat):Int))(hl:LitAt B T base s l w')(hb:Below T w w')(hal:∀x,x ∈ l->x<256):LitParts o B T base p s w (.returned (jk #[je jd x,ji true])) w':=by
 subst h hx;exact⟨rfl,hl,hb,hal⟩
theorem znp (B T base p q:Nat)(s:ByteArray)(w:World)(hs:s.size<=2000000)(hp:p<=s.size)(h:LitAt B T base s [] w) :
  Calls qab 124 #[jh s,je jd (p:Int),je .u8 (q:Int),.func (.func 125) #[] #[jj (some ⟨B,0,none⟩),jj (some ⟨T,0,none⟩)]] w (LitParts (litE q ((bts s).drop p)) B T base p s w):=by
 have HH:=qaa h;clear h;go_enter Tryz.func124,Tryz.ntmps124;go_wp2
 go_loopw [1,9] (fun c _ wx=>∃(i:Nat) (acc:List Nat),p<=i/\i<=s.size/\c=je jd i/\acc.length<=i/\LitAt B T base s acc wx/\Below T w wx/\(∀x,x ∈ acc->x<256)/\litE q ((bts s).drop p)=(litE q ((bts s).drop i)).map fun x=>(acc++x.1,(i-p)+x.2)) (fun c _ _=>s.size-(intOf c).toNat)
 case atStart=>exact⟨p,[],qac _,hp,rfl,Nat.zero_le _,HH.out,qaf _ _,(fun x hx=>nomatch hx),jc⟩
 case round=>
  obtain⟨i,acc,hpi,hi,rfl,hac,hl,hb,hal,hu⟩:=hrel;have HU:=qaa hu;have HL:=qaa hl;have HB:=qaa hb;have HAL:=qaa hal;clear hu hl hb hal;by_cases hlt:i<s.size
  ·have hdi:=zas s i hlt
   have hlt':(i:Int)<(s.size:Int):=U
   by_cases hd:s[i].toNat=q
   ·have hr:litE q ((bts s).drop p)=some (acc,(i-p)+1):=by
     rw[HU.out,hdi,hd,zff];simp
    have HR:=qaa hr;have hd':((s[i].toNat:Int) != (q:Int))=false:=by rw[hd];simp
    have e1:((i:Int) == (s.size:Int))=false:=by rw[beq_eq_false_iff_ne];omega
    clear hr hdi hd;go_wp2
    go_ret2
    exact LitParts.yes HR.out U HL.out HB.out HAL.out
   ·have hd':((s[i].toNat:Int) != (q:Int))=true:=by rw[bne_iff_ne];omega
    cases hr:rd (bts s) (i:Int) with
    |none=>
     have hr':litE q ((bts s).drop p)=none:=by
      rw[zcn,hdi] at hr;rw[HU.out,hdi,zf9 hr hd];rfl
     have HR:=qaa hr';have HDD:=qaa hr;clear hr hr' hdi hd
     go_wp2_with (go_at_call 125;(with_reducible refine(z6k B T base s acc i _ hs HL.out U HDD.out).mono ?_);rintro e w' ⟨rfl,hb2⟩)
     go_ret2
     exact LitParts.no HR.out (HB.out.trans hb2)
    |some x=>
     obtain⟨c,n⟩:=x;obtain⟨p0,p1,p2,p3⟩:=zdz hr;have hr':litE q ((bts s).drop p)=(litE q ((bts s).drop (i+n))).map fun x=>((acc++[c])++x.1,(i+n-p)+x.2):=by
      rw[zcn,hdi] at hr;rw[HU.out,hdi,zdj hr hd,<-hdi,List.drop_drop,zql];rw[show i-p+n=i+n-p by omega]
     have HR:=qaa hr';have HDD:=qaa hr;have hal2:Hid (∀x,x ∈ acc++[c]->x<256):=qaa (fun x hx=>by
      rcases List.mem_append.1 hx with h|h
      ·exact HAL.out x h
      ·rw[List.mem_singleton] at h;subst h;exact p3)
     clear hr hr' hdi hd
     go_wp2_with (go_at_call 125;(with_reducible refine(z4c B T base s acc i c n _ hs HL.out U HDD.out).mono ?_);rintro e w' ⟨rfl,hl2,hb2⟩;have HL2:=qaa hl2;have HB2:=qaa hb2;clear hl2 hb2)
     go_roundw
     case rel=>exact⟨i+n,acc++[c],U,U,by go_num,by simp;omega,HL2.out,HB.out.trans HB2.out,hal2.out,HR.out⟩
     case measure=>simp[intOf];omega
  ·have hr:litE q ((bts s).drop p)=none:=by
    rw[HU.out,List.drop_eq_nil_of_le (show(bts s).length<=i by rw[zaj];omega),zh7];rfl
   have HR:=qaa hr;have hlt':decide ((i:Int)<(s.size:Int))=false:=by rw[decide_eq_false_iff_not];omega
   have e1:((i:Int) == (s.size:Int))=true:=by rw[beq_iff_eq];omega
   clear hr;go_wp2
   go_ret2
   exact LitParts.no HR.out HB.out
end
section
open Go.RowKit
theorem LitAt.drew {acc:List Nat}(h:LitAt B T base s acc w):LitAt B T base s acc w.drew:=by
 obtain⟨h0,h1,h2,v,h3,h4⟩:=h;exact⟨h0,h1,h2,v,h3,h4.drew⟩
def LitlIs (o:Option (List Nat × Nat))(k:Nat)(w:World)(e:Ending)(w':World):Prop:=
 match o with
 |none=>e=.returned (jk #[.agg #[je jd 0,je jd 0,jh ⟨#[]⟩,je jg 0,je jg 0,je jg 0,je jg 0],je jd 0,ji false])/\Below w.heap.size w w'
 |some (l,m)=>e=.returned (jk #[.agg #[je jd 12,je jd 0,jh (strOf l),je jg 0,je jg 0,je jg 0,je jg 0],je jd ((k+1+m:Nat):Int),ji true])/\Below w.heap.size w w'
theorem LitlIs.no {k:Nat}(h:o=none)(hb:Below w.heap.size w w') :
  LitlIs o k w (.returned (jk #[.agg #[je jd 0,je jd 0,jh ⟨#[]⟩,je jg 0,je jg 0,je jg 0,je jg 0],je jd 0,ji false])) w':=by
 subst h;exact⟨rfl,hb⟩
theorem LitlIs.yes {k m:Nat}{l:List Nat}{x:Int}(h:o=some (l,m))(hx:x=((k+1+m:Nat):Int))(hb:Below w.heap.size w w') :
  LitlIs o k w (.returned (jk #[.agg #[je jd 12,je jd 0,jh (strOf l),je jg 0,je jg 0,je jg 0,je jg 0],je jd x,ji true])) w':=by
 subst h hx;exact⟨rfl,hb⟩
def litW (s:ByteArray)(w:World):World:=((w.alloc (Obj.cells #[Value.string s] 9)).alloc (Obj.cells #[Value.int IntKind.i64 0,Value.int IntKind.i64 0,Value.string { data:=#[] },Value.int IntKind.u64 0,Value.int IntKind.u64 0,Value.int IntKind.u64 0,Value.int IntKind.u64 0] 95)).alloc (Obj.cells #[Value.slice none 0 0] 71)
theorem zkr (s:ByteArray)(w:World):Below w.heap.size w (litW s w):=
 (((qaf _ _).alloc (qac _) _).alloc jc _).alloc (by simp;omega) _
theorem znq (s:ByteArray)(w:World):Zero7 (w.heap.size+1) (litW s w):=by
 have h:=(Zero7.new2 (w.alloc (Obj.cells #[Value.string s] 9))).below (n:=w.heap.size+2) ((qaf _ _).alloc jc (Obj.cells #[Value.slice none 0 0] 71)) jc;unfold litW;simpa using h
theorem zv7 (s:ByteArray)(w:World):LitAt w.heap.size (w.heap.size+1+1) (w.heap.size+1+1+1) s [] (litW s w):=by
 have hb:Below (w.heap.size+1) (w.alloc (Obj.cells #[Value.string s] 9)) (litW s w):=((qaf _ _).alloc jc _).alloc jc _;refine⟨⟨U,U,by simp[litW]⟩,?_,fun o=>?_,.slice none 0 0,?_,World.ownsRow_nil _ _ _ _⟩
 ·rw[(bcell hb).1 _ _ U];simp
 ·unfold litW;rw[World.frozen?_alloc_at _ _ _ _ jc]
 ·unfold litW;rw[World.cell?_alloc_at _ _ _ _ jc];rfl
theorem zrh (hb:Below n w w')(h:n<=B)(a b c d e f g:Value) :
  Below n w (((((((w'.setCell ⟨B,0,none⟩ a).setCell ⟨B,1,none⟩ b).setCell ⟨B,2,none⟩ c).setCell ⟨B,3,none⟩ d).setCell ⟨B,4,none⟩ e).setCell ⟨B,5,none⟩ f).setCell ⟨B,6,none⟩ g):=
 ((((((hb.setCell (p:=⟨B,0,none⟩) h _).setCell (p:=⟨B,1,none⟩) h _).setCell (p:=⟨B,2,none⟩) h _).setCell (p:=⟨B,3,none⟩) h _).setCell (p:=⟨B,4,none⟩) h _).setCell (p:=⟨B,5,none⟩) h _).setCell (p:=⟨B,6,none⟩) h _
theorem zs5 (s:ByteArray)(k q:Nat)(w:World)(hs:s.size<=1050000)(hlt:k<s.size)(hq:s[k].toNat=q)(hr:litE q ((bts s).drop (k+1))=none) :
  Calls qab 100 #[jh s,je jd (k:Int)] w (LitlIs none k w):=by
 have hlt':(k:Int)<(s.size:Int):=U
 have HR:=qaa hr;clear hr;go_enter Tryz.func100,Tryz.ntmps100;go_wp2;obtain⟨W,hW⟩:∃W,(((w.alloc (Obj.cells #[Value.string s] 9)).alloc (Obj.cells #[Value.int IntKind.i64 0,Value.int IntKind.i64 0,Value.string { data:=#[] },Value.int IntKind.u64 0,Value.int IntKind.u64 0,Value.int IntKind.u64 0,Value.int IntKind.u64 0] 95)).alloc (Obj.cells #[Value.slice none 0 0] 71))=W:=⟨_,rfl⟩;have hw:litW s w=W:=hW;rw[hW];have HL:Hid (LitAt w.heap.size (w.heap.size+1+1) (w.heap.size+1+1+1) s [] W):=qaa (by rw[<-hw];exact zv7 s w);have HZ:Hid (Zero7 (w.heap.size+1) W):=qaa (by rw[<-hw];exact znq s w);have HB0:Hid (Below w.heap.size w W):=qaa (by rw[<-hw];exact zkr s w);clear hW hw
 go_cut [5,6] (fun a b wx=>a=je jd 0/\b=ji false/\Below (w.heap.size+1+1) W wx)
 case first=>
  have c0:W.cell? ⟨w.heap.size,0,none⟩=some (jh s):=HL.out.2.1;have v1:IntKind.i64.wrap ((k:Int)+1)=(k:Int)+1:=qaq _ U;have hmf:∀(fn:Fn) (first cap:Array Value) (w:World),(Instr.makeFunc fn first cap).run qab w=.ok (.func fn first cap) w:=fun _ _ _ _=>rfl
  have hpl:Calls qab 124 #[jh s,je jd ((k:Int)+1),je .u8 (q:Int),.func (.func 125) #[] #[jj (some ⟨w.heap.size,0,none⟩),jj (some ⟨w.heap.size+1+1,0,none⟩)]] W.drew fun e w'=>e=.returned (jk #[je jd 0,ji false])/\Below (w.heap.size+1+1) W.drew w':=by
   have h1:=znp _ _ _ (k+1) q s W.drew U U HL.out.drew;unfold LitParts at h1;rw[HR.out] at h1;exact h1
  have HPL:=qaa hpl;clear hpl
  go_region_with ((go_at_call 124;(with_reducible refine HPL.out.mono ?_);rintro e w' ⟨rfl,hb⟩;have HB:=qaa hb;clear hb))
  all_goals
   go_wp2
   go_meet
   exact⟨rfl,rfl,by have:=HB.out;exact⟨this.os,this.tape,this.output,this.size,this.block⟩⟩
 case rest=>
  obtain⟨rfl,rfl,hb⟩:=hcut;obtain⟨⟨d0,d1,d2,d3,d4,d5,d6⟩,hfr⟩:=HZ.out.below hb U;have HB:=qaa hb;clear hb;go_wp2;refine bodyPost_ret (v:=jk #[.agg #[je jd 0,je jd 0,jh ⟨#[]⟩,je jg 0,je jg 0,je jg 0,je jg 0],je jd 0,ji false]) (by simp[results,Tryz.results100,go_sem,d0,d1,d2,d3,d4,d5,d6]) rfl (LitlIs.no rfl ?_);exact zrh (HB0.out.trans (HB.out.mono U)) (Nat.le_succ _) _ _ _ _ _ _ _
theorem zpt (s:ByteArray)(k q m:Nat)(l:List Nat)(w:World)(hs:s.size<=1050000)(hlt:k<s.size)(hq:s[k].toNat=q)(hr:litE q ((bts s).drop (k+1))=some (l,m)) :
  Calls qab 100 #[jh s,je jd (k:Int)] w (LitlIs (some (l,m)) k w):=by
 have hlt':(k:Int)<(s.size:Int):=U
 have HR:=qaa hr;obtain⟨n,hn⟩:∃n:Nat,k+1+m=n:=⟨_,rfl⟩;have HN:=qaa hn;clear hr hn;go_enter Tryz.func100,Tryz.ntmps100;go_wp2;obtain⟨W,hW⟩:∃W,(((w.alloc (Obj.cells #[Value.string s] 9)).alloc (Obj.cells #[Value.int IntKind.i64 0,Value.int IntKind.i64 0,Value.string { data:=#[] },Value.int IntKind.u64 0,Value.int IntKind.u64 0,Value.int IntKind.u64 0,Value.int IntKind.u64 0] 95)).alloc (Obj.cells #[Value.slice none 0 0] 71))=W:=⟨_,rfl⟩;have hw:litW s w=W:=hW;rw[hW];have HL:Hid (LitAt w.heap.size (w.heap.size+1+1) (w.heap.size+1+1+1) s [] W):=qaa (by rw[<-hw];exact zv7 s w);have HZ:Hid (Zero7 (w.heap.size+1) W):=qaa (by rw[<-hw];exact znq s w);have HB0:Hid (Below w.heap.size w W):=qaa (by rw[<-hw];exact zkr s w);clear hW hw
 go_cut [5,6] (fun a b wx=>a=je jd (n:Int)/\b=ji true/\LitAt w.heap.size (w.heap.size+1+1) (w.heap.size+1+1+1) s l wx/\Below (w.heap.size+1+1) W wx/\∀x,x ∈ l->x<256)
 case first=>
  have c0:W.cell? ⟨w.heap.size,0,none⟩=some (jh s):=HL.out.2.1;have v1:IntKind.i64.wrap ((k:Int)+1)=(k:Int)+1:=qaq _ U;have hmf:∀(fn:Fn) (first cap:Array Value) (w:World),(Instr.makeFunc fn first cap).run qab w=.ok (.func fn first cap) w:=fun _ _ _ _=>rfl
  have hpl:Calls qab 124 #[jh s,je jd ((k:Int)+1),je .u8 (q:Int),.func (.func 125) #[] #[jj (some ⟨w.heap.size,0,none⟩),jj (some ⟨w.heap.size+1+1,0,none⟩)]] W.drew fun e w'=>e=.returned (jk #[je jd (n:Int),ji true])/\LitAt w.heap.size (w.heap.size+1+1) (w.heap.size+1+1+1) s l w'/\Below (w.heap.size+1+1) W.drew w'/\∀x,x ∈ l->x<256:=by
   have h1:=znp _ _ _ (k+1) q s W.drew U U HL.out.drew;unfold LitParts at h1;rw[HR.out] at h1;have h2:=HN.out;rw[<-h2];exact h1
  have HPL:=qaa hpl;clear hpl
  go_region_with ((go_at_call 124;(with_reducible refine HPL.out.mono ?_);rintro e w' ⟨rfl,hl2,hb,hal⟩;have HB:=qaa hb;have HL2:=qaa hl2;have HAL:=qaa hal;clear hb hl2 hal))
  all_goals
   go_wp2
   go_meet
   exact⟨rfl,rfl,HL2.out,by have:=HB.out;exact⟨this.os,this.tape,this.output,this.size,this.block⟩,HAL.out⟩
 case rest=>
  obtain⟨rfl,rfl,hl2,hb,hal⟩:=hcut;obtain⟨⟨d0,d1,d2,d3,d4,d5,d6⟩,hfr⟩:=HZ.out.below hb U;obtain⟨-,-,-,v,c1,hrow⟩:=hl2;have hcv:=zqy (RowAt.of_owns hrow (zg6 _)) hal;have HB:=qaa hb;clear hb hal hrow;go_wp2;refine bodyPost_ret (v:=jk #[.agg #[je jd 12,je jd 0,jh (strOf l),je jg 0,je jg 0,je jg 0,je jg 0],je jd (n:Int),ji true]) (by simp[results,Tryz.results100,go_sem,d0,d1,d2,d3,d4,d5,d6]) rfl (LitlIs.yes rfl (by rw[HN.out]) ?_);exact zrh (HB0.out.trans (HB.out.mono U)) (Nat.le_succ _) _ _ _ _ _ _ _
theorem zpu (s:ByteArray)(k:Nat)(w:World)(hs:s.size<=1050000)(hlt:k<s.size) :
  Calls qab 100 #[jh s,je jd (k:Int)] w (LitlIs (litE s[k].toNat ((bts s).drop (k+1))) k w):=by
 cases hr:litE s[k].toNat ((bts s).drop (k+1)) with
 |none=>exact zs5 s k _ w hs hlt rfl hr
 |some x=>obtain⟨l,m⟩:=x;exact zpt s k _ m l w hs hlt rfl hr
end
