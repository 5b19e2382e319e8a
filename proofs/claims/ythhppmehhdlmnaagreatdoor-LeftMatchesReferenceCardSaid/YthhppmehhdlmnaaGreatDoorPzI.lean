/- The literal's closure, parts with it, and the program's literal. -/
import Derived.Deep.Cut
import Derived.Deep.DeepCutAuto
import Derived.BigRegion
import Derived.Deep.RegionHeld3
import Derived.Test.YthhppmehhdlmnaaGreatDoorPzLexStr
import Derived.Test.YthhppmehhdlmnaaGreatDoorPzG
import Derived.Test.YthhppmehhdlmnaaGreatDoorPzH
set_option maxRecDepth 100000
set_option maxHeartbeats 2000000
namespace Go.Proofs.YthhppmehhdlmnaaGreatDoor
section
open Go.RowKit
theorem zir {w:World}{base:Nat}{e:TypeId}{size:Nat}{v:Value}{n:Nat}{xs:List Value}(h:w.ownsRow base e size v n xs){b o:Nat}(hb:b<base)(u:Value):(w.setCell ⟨b,o,none⟩ u).ownsRow base e size v n xs:=by
 refine h.kept (row:=some b) ⟨rfl,rfl,rfl,by simp[World.setCell],fun k _ hk=>Below.heap_setCell _ _ _ _ (fun e=>hk (by rw[e]))⟩ ?_;cases hv:v.ownBlock with
 |none=>exact .inl rfl
 |some g=>
  right;have:=(h.lt g hv).1;intro e;cases e;omega
theorem zgb {w:World}{base:Nat}{e:TypeId}{size:Nat}{v:Value}{n:Nat}{xs:List Value}(h:w.ownsRow base e size v n xs):∃a c,v=.slice a n c:=by
 rcases h.2 with⟨rfl,rfl⟩|⟨g,cap,cur,rfl,-⟩
 ·exact⟨none,0,rfl⟩
 ·exact⟨_,cap,rfl⟩
def LitAt (B T base:Nat)(s:ByteArray)(acc:List Nat)(w:World):Prop:=
 (B<T/\T<base/\base<=w.heap.size)/\w.cell? ⟨B,0,none⟩=some (.string s)/\(∀o,w.frozen? ⟨T,o,none⟩=false)/\∃v,w.cell? ⟨T,0,none⟩=some v/\w.ownsRow base 5 1 v acc.length (u8s acc)
theorem LitAt.drewN {B T base n:Nat}{s:ByteArray}{acc:List Nat}{w:World}(h:LitAt B T base s acc w):LitAt B T base s acc (w.drewN n):=by
 obtain⟨h0,h1,h2,v,h3,h4⟩:=h;exact⟨by simpa using h0,by simpa using h1,fun o=>by simpa using h2 o,v,by simpa using h3,zaa h4 (zak (Below.refl _ _))⟩
theorem z8s (B T base:Nat)(s:ByteArray)(acc:List Nat)(i:Nat)(w:World)(hs:s.size<=2000000)(h:LitAt B T base s acc w)(hal:acc.length<=2000000)(hr:rd (bts s) (i:Int)=none) :
  Calls Tryz.prog 179 #[.int .i64 (i:Int),.pointer (some ⟨B,0,none⟩),.pointer (some ⟨T,0,none⟩)] w fun e w'=>e=.returned (.tuple #[.int .i64 0,.bool false])/\Below T w w':=by
 obtain⟨⟨h0,h1,h2⟩,c0,f1,v,c1,hs1⟩:=h;obtain⟨i0,hi0,hy0,hy1,hy2⟩:=info_parts z3j;have HD:=Lib.hid hr;have f0:=f1 0;clear hr f1;go_enter Tryz.func179,Tryz.ntmps179
 go_wp2_with (first
  |(go_at_call 180;(with_reducible refine(zl4 s (i:Int) _ hs HD.out).mono ?_);rintro e w' ⟨rfl,hw⟩;obtain rfl:=hw.symm;clear hw)
  |(
    at_builtin;refine wpList_append_own _ rfl _ _ 105 rfl base 5 i0 (.int .u8 0) 1 1 Tryz.underlying105 hi0 hy0 hy1 hy2 rfl (by decide) _ _ _ rfl (hs1.alloc _) ⟨w.heap.size,0,none⟩ 1 1 [.int .u8 (0:Int)] rfl rfl (zaq _ _ _) (by simp[Value.oneCell']) (by unfold maxLen;omega) (by omega) (by simp;omega) ?_
    intro v' w2 hown' hgrow _;obtain⟨a',c',rfl⟩:=zgb hown';have hb2:Below base w w2:=((Below.refl _ w).alloc (by omega) (.cells #[_] 5)).grown hgrow (by simp;omega) (fun k e=>(hs1.lt k e).1);have d1:w2.cell? ⟨T,0,none⟩=some v:=by rw[(bcell hb2).1 _ _ h1];exact c1
    have g1:w2.frozen? ⟨T,0,none⟩=false:=by rw[(bcell hb2).2 _ _ h1];exact f0
    have HO:=Lib.hid hown';have HB:=Lib.hid hb2;clear hown' hgrow hb2))
 go_ret2
 exact⟨rfl,(HB.out.mono (Nat.le_of_lt h1)).setCell (p:=⟨T,0,none⟩) (Nat.le_refl _) _⟩
theorem z6m (B T base:Nat)(s:ByteArray)(acc:List Nat)(i c n:Nat)(w:World)(hs:s.size<=2000000)(h:LitAt B T base s acc w)(hal:acc.length<=2000000)(hr:rd (bts s) (i:Int)=some (c,n)) :
  Calls Tryz.prog 179 #[.int .i64 (i:Int),.pointer (some ⟨B,0,none⟩),.pointer (some ⟨T,0,none⟩)] w fun e w'=>e=.returned (.tuple #[.int .i64 ((i:Int)+(n:Int)),.bool true])/\LitAt B T base s (acc++[c]) w'/\Below T w w':=by
 obtain⟨⟨h0,h1,h2⟩,c0,f1,v,c1,hs1⟩:=h;obtain⟨i0,hi0,hy0,hy1,hy2⟩:=info_parts z3j;have HD:=Lib.hid hr;have f0:=f1 0;obtain⟨p0,p1,p2,p3⟩:=zfg hr;have q1:(c:Int)<=255:=by omega
 have q2:(i:Int)+(n:Int)<=2000000:=by omega
 clear hr;have HF:=Lib.hid f1;clear f1;go_enter Tryz.func179,Tryz.ntmps179
 go_wp2_with (first
  |(go_at_call 180;(with_reducible refine(ziq s (i:Int) c n _ hs HD.out).mono ?_);rintro e w' ⟨rfl,hw⟩;obtain rfl:=hw.symm;clear hw)
  |(
    at_builtin;refine wpList_append_own _ rfl _ _ 105 rfl base 5 i0 (.int .u8 0) 1 1 Tryz.underlying105 hi0 hy0 hy1 hy2 rfl (by decide) _ _ _ rfl (hs1.alloc _) ⟨w.heap.size,0,none⟩ 1 1 [.int .u8 (c:Int)] rfl rfl (zaq _ _ _) (by simp[Value.oneCell']) (by unfold maxLen;omega) (by omega) (by simp;omega) ?_
    intro v' w2 hown' hgrow _;obtain⟨a',c',rfl⟩:=zgb hown';have hb2:Below base w w2:=((Below.refl _ w).alloc (by omega) (.cells #[_] 5)).grown hgrow (by simp;omega) (fun k e=>(hs1.lt k e).1);have d1:w2.cell? ⟨T,0,none⟩=some v:=by rw[(bcell hb2).1 _ _ h1];exact c1
    have g1:w2.frozen? ⟨T,0,none⟩=false:=by rw[(bcell hb2).2 _ _ h1];exact f0
    have HO:=Lib.hid hown';have HB:=Lib.hid hb2;clear hown' hgrow hb2))
 go_ret2
 have hO:=HO.out;rw[<-zzm] at hO;refine⟨rfl,⟨⟨h0,h1,Nat.le_trans h2 (Nat.le_trans HB.out.size (by simp[World.setCell]))⟩,?_,fun o=>?_,_,?_,by simpa using zir hO h1 _⟩,(HB.out.mono (Nat.le_of_lt h1)).setCell (p:=⟨T,0,none⟩) (Nat.le_refl _) _⟩
 ·rw[World.cell?_setCell_other (a:=⟨T,0,none⟩) (b:=⟨B,0,none⟩) (h:=fun e=>by cases e;omega),(bcell HB.out).1 _ _ (by omega)];exact c0
 ·rw[World.frozen?_setCell,(bcell HB.out).2 _ _ h1];exact HF.out o
 ·exact World.cell?_setCell_same _ _ _ d1
def LitParts (o:Option (List Nat × Nat))(B T base p:Nat)(s:ByteArray)(w:World)(e:Ending)(w':World):Prop:=
 match o with
 |none=>e=.returned (.tuple #[.int .i64 0,.bool false])/\Below T w w'
 |some (l,m)=>e=.returned (.tuple #[.int .i64 ((p+m:Nat):Int),.bool true])/\LitAt B T base s l w'/\Below T w w'/\∀x,x ∈ l->x<256
theorem LitParts.no {o:Option (List Nat × Nat)}{B T base p:Nat}{s:ByteArray}{w w':World}(h:o=none)(hb:Below T w w'):LitParts o B T base p s w (.returned (.tuple #[.int .i64 0,.bool false])) w':=by
 subst h;exact⟨rfl,hb⟩
theorem LitParts.yes {o:Option (List Nat × Nat)}{B T base p m:Nat}{l:List Nat}{s:ByteArray}{x:Int}{w w':World}(h:o=some (l,m))(hx:x=((p+m:Nat):Int))(hl:LitAt B T base s l w')(hb:Below T w w')(hal:∀x,x ∈ l->x<256):LitParts o B T base p s w (.returned (.tuple #[.int .i64 x,.bool true])) w':=by
 subst h hx;exact⟨rfl,hl,hb,hal⟩
theorem znt (B T base p q:Nat)(s:ByteArray)(w:World)(hs:s.size<=2000000)(hp:p<=s.size)(h:LitAt B T base s [] w) :
  Calls Tryz.prog 178 #[.string s,.int .i64 (p:Int),.int .u8 (q:Int),.func (.func 179) #[] #[.pointer (some ⟨B,0,none⟩),.pointer (some ⟨T,0,none⟩)]] w (LitParts (litE q ((bts s).drop p)) B T base p s w):=by
 have HH:=Lib.hid h;clear h;go_enter Tryz.func178,Tryz.ntmps178;go_wp2
 go_loopw [1,9] (fun c _ wx=>∃(i:Nat) (acc:List Nat),p<=i/\i<=s.size/\c=.int .i64 i/\acc.length<=i/\LitAt B T base s acc wx/\Below T w wx/\(∀x,x ∈ acc->x<256)/\litE q ((bts s).drop p)=(litE q ((bts s).drop i)).map fun x=>(acc++x.1,(i-p)+x.2)) (fun c _ _=>s.size-(intOf c).toNat)
 case atStart=>exact⟨p,[],Nat.le_refl _,hp,rfl,Nat.zero_le _,HH.out,Below.refl _ _,(fun x hx=>nomatch hx),by simp⟩
 case round=>
  obtain⟨i,acc,hpi,hi,rfl,hac,hl,hb,hal,hu⟩:=hrel;have HU:=Lib.hid hu;have HL:=Lib.hid hl;have HB:=Lib.hid hb;have HAL:=Lib.hid hal;clear hu hl hb hal;by_cases hlt:i<s.size
  ·have hdi:=zbd s i hlt
   have hlt':(i:Int)<(s.size:Int):=by omega
   by_cases hd:s[i].toNat=q
   ·have hr:litE q ((bts s).drop p)=some (acc,(i-p)+1):=by
     rw[HU.out,hdi,hd,zc2];simp
    have HR:=Lib.hid hr;have hd':((s[i].toNat:Int) != (q:Int))=false:=by rw[hd];simp
    have e1:((i:Int) == (s.size:Int))=false:=by rw[beq_eq_false_iff_ne];omega
    clear hr hdi hd;go_wp2
    go_ret2
    exact LitParts.yes HR.out (by omega) HL.out HB.out HAL.out
   ·have hd':((s[i].toNat:Int) != (q:Int))=true:=by rw[bne_iff_ne];omega
    cases hr:rd (bts s) (i:Int) with
    |none=>
     have hr':litE q ((bts s).drop p)=none:=by
      rw[ze5,hdi] at hr;rw[HU.out,hdi,zkq hr hd];rfl
     have HR:=Lib.hid hr';have HDD:=Lib.hid hr;clear hr hr' hdi hd
     go_wp2_with (go_at_call 179;(with_reducible refine(z8s B T base s acc i _ hs HL.out (by omega) HDD.out).mono ?_);rintro e w' ⟨rfl,hb2⟩)
     go_ret2
     exact LitParts.no HR.out (HB.out.trans hb2)
    |some x=>
     obtain⟨c,n⟩:=x;obtain⟨p0,p1,p2,p3⟩:=zfg hr;have hr':litE q ((bts s).drop p)=(litE q ((bts s).drop (i+n))).map fun x=>((acc++[c])++x.1,(i+n-p)+x.2):=by
      rw[ze5,hdi] at hr;rw[HU.out,hdi,zcg hr hd,<-hdi,List.drop_drop,zzi];rw[show i-p+n=i+n-p by omega]
     have HR:=Lib.hid hr';have HDD:=Lib.hid hr;have hal2:Hid (∀x,x ∈ acc++[c]->x<256):=Lib.hid (fun x hx=>by
      rcases List.mem_append.1 hx with h|h
      ·exact HAL.out x h
      ·rw[List.mem_singleton] at h;subst h;exact p3)
     clear hr hr' hdi hd
     go_wp2_with (go_at_call 179;(with_reducible refine(z6m B T base s acc i c n _ hs HL.out (by omega) HDD.out).mono ?_);rintro e w' ⟨rfl,hl2,hb2⟩;have HL2:=Lib.hid hl2;have HB2:=Lib.hid hb2;clear hl2 hb2)
     go_roundw
     case rel=>exact⟨i+n,acc++[c],by omega,by omega,by go_num,by simp;omega,HL2.out,HB.out.trans HB2.out,hal2.out,HR.out⟩
     case measure=>simp[intOf];omega
  ·have hr:litE q ((bts s).drop p)=none:=by
    rw[HU.out,List.drop_eq_nil_of_le (show(bts s).length<=i by rw[zag];omega),zkp];rfl
   have HR:=Lib.hid hr;have hlt':decide ((i:Int)<(s.size:Int))=false:=by rw[decide_eq_false_iff_not];omega
   have e1:((i:Int) == (s.size:Int))=true:=by rw[beq_iff_eq];omega
   clear hr;go_wp2
   go_ret2
   exact LitParts.no HR.out HB.out
end
section
open Go.RowKit
theorem LitAt.drew {B T base:Nat}{s:ByteArray}{acc:List Nat}{w:World}(h:LitAt B T base s acc w):LitAt B T base s acc w.drew:=by
 obtain⟨h0,h1,h2,v,h3,h4⟩:=h;exact⟨h0,h1,h2,v,h3,h4.drew⟩
def LitlIs (o:Option (List Nat × Nat))(k:Nat)(w:World)(e:Ending)(w':World):Prop:=
 match o with
 |none=>e=.returned (.tuple #[.agg #[.int .i64 0,.int .i64 0,.string ⟨#[]⟩,.int .u64 0,.int .u64 0,.int .u64 0,.int .u64 0],.int .i64 0,.bool false])/\Below w.heap.size w w'
 |some (l,m)=>e=.returned (.tuple #[.agg #[.int .i64 12,.int .i64 0,.string (strOf l),.int .u64 0,.int .u64 0,.int .u64 0,.int .u64 0],.int .i64 ((k+1+m:Nat):Int),.bool true])/\Below w.heap.size w w'
theorem LitlIs.no {o:Option (List Nat × Nat)}{k:Nat}{w w':World}(h:o=none)(hb:Below w.heap.size w w') :
  LitlIs o k w (.returned (.tuple #[.agg #[.int .i64 0,.int .i64 0,.string ⟨#[]⟩,.int .u64 0,.int .u64 0,.int .u64 0,.int .u64 0],.int .i64 0,.bool false])) w':=by
 subst h;exact⟨rfl,hb⟩
theorem LitlIs.yes {o:Option (List Nat × Nat)}{k m:Nat}{l:List Nat}{x:Int}{w w':World}(h:o=some (l,m))(hx:x=((k+1+m:Nat):Int))(hb:Below w.heap.size w w') :
  LitlIs o k w (.returned (.tuple #[.agg #[.int .i64 12,.int .i64 0,.string (strOf l),.int .u64 0,.int .u64 0,.int .u64 0,.int .u64 0],.int .i64 x,.bool true])) w':=by
 subst h hx;exact⟨rfl,hb⟩
def litW (s:ByteArray)(w:World):World:=((w.alloc (Obj.cells #[Value.string s] 9)).alloc (Obj.cells #[Value.int IntKind.i64 0,Value.int IntKind.i64 0,Value.string { data:=#[] },Value.int IntKind.u64 0,Value.int IntKind.u64 0,Value.int IntKind.u64 0,Value.int IntKind.u64 0] 168)).alloc (Obj.cells #[Value.slice none 0 0] 105)
theorem zka (s:ByteArray)(w:World):Below w.heap.size w (litW s w):=
 (((Below.refl _ _).alloc (Nat.le_refl _) _).alloc (by simp) _).alloc (by simp;omega) _
theorem znu (s:ByteArray)(w:World):Zero7 (w.heap.size+1) (litW s w):=by
 have h:=(Zero7.new2 (w.alloc (Obj.cells #[Value.string s] 9))).below (n:=w.heap.size+2) ((Below.refl _ _).alloc (by simp) (Obj.cells #[Value.slice none 0 0] 105)) (by simp);unfold litW;simpa using h
theorem zya (s:ByteArray)(w:World):LitAt w.heap.size (w.heap.size+1+1) (w.heap.size+1+1+1) s [] (litW s w):=by
 have hb:Below (w.heap.size+1) (w.alloc (Obj.cells #[Value.string s] 9)) (litW s w):=((Below.refl _ _).alloc (by simp) _).alloc (by simp) _;refine⟨⟨by omega,by omega,by simp[litW]⟩,?_,fun o=>?_,.slice none 0 0,?_,World.ownsRow_nil _ _ _ _⟩
 ·rw[(bcell hb).1 _ _ (by omega)];simp
 ·unfold litW;rw[World.frozen?_alloc_at _ _ _ _ (by simp)]
 ·unfold litW;rw[World.cell?_alloc_at _ _ _ _ (by simp)];rfl
theorem zr2 {n B:Nat}{w w':World}(hb:Below n w w')(h:n<=B)(a b c d e f g:Value) :
  Below n w (((((((w'.setCell ⟨B,0,none⟩ a).setCell ⟨B,1,none⟩ b).setCell ⟨B,2,none⟩ c).setCell ⟨B,3,none⟩ d).setCell ⟨B,4,none⟩ e).setCell ⟨B,5,none⟩ f).setCell ⟨B,6,none⟩ g):=
 ((((((hb.setCell (p:=⟨B,0,none⟩) h _).setCell (p:=⟨B,1,none⟩) h _).setCell (p:=⟨B,2,none⟩) h _).setCell (p:=⟨B,3,none⟩) h _).setCell (p:=⟨B,4,none⟩) h _).setCell (p:=⟨B,5,none⟩) h _).setCell (p:=⟨B,6,none⟩) h _
theorem ztq (s:ByteArray)(k q:Nat)(w:World)(hs:s.size<=1050000)(hlt:k<s.size)(hq:s[k].toNat=q)(hr:litE q ((bts s).drop (k+1))=none) :
  Calls Tryz.prog 168 #[.string s,.int .i64 (k:Int)] w (LitlIs none k w):=by
 have hlt':(k:Int)<(s.size:Int):=by omega
 have HR:=Lib.hid hr;clear hr;go_enter Tryz.func168,Tryz.ntmps168;go_wp2;obtain⟨W,hW⟩:∃W,(((w.alloc (Obj.cells #[Value.string s] 9)).alloc (Obj.cells #[Value.int IntKind.i64 0,Value.int IntKind.i64 0,Value.string { data:=#[] },Value.int IntKind.u64 0,Value.int IntKind.u64 0,Value.int IntKind.u64 0,Value.int IntKind.u64 0] 168)).alloc (Obj.cells #[Value.slice none 0 0] 105))=W:=⟨_,rfl⟩;have hw:litW s w=W:=hW;rw[hW];have HL:Hid (LitAt w.heap.size (w.heap.size+1+1) (w.heap.size+1+1+1) s [] W):=Lib.hid (by rw[<-hw];exact zya s w);have HZ:Hid (Zero7 (w.heap.size+1) W):=Lib.hid (by rw[<-hw];exact znu s w);have HB0:Hid (Below w.heap.size w W):=Lib.hid (by rw[<-hw];exact zka s w);clear hW hw
 go_cut [5,6] (fun a b wx=>a=.int .i64 0/\b=.bool false/\Below (w.heap.size+1+1) W wx)
 case first=>
  have c0:W.cell? ⟨w.heap.size,0,none⟩=some (.string s):=HL.out.2.1;have v1:IntKind.i64.wrap ((k:Int)+1)=(k:Int)+1:=IntWalk.i64_in _ (by omega);have hmf:∀(fn:Fn) (first cap:Array Value) (w:World),(Instr.makeFunc fn first cap).run Tryz.prog w=.ok (.func fn first cap) w:=fun _ _ _ _=>rfl
  have hpl:Calls Tryz.prog 178 #[.string s,.int .i64 ((k:Int)+1),.int .u8 (q:Int),.func (.func 179) #[] #[.pointer (some ⟨w.heap.size,0,none⟩),.pointer (some ⟨w.heap.size+1+1,0,none⟩)]] W.drew fun e w'=>e=.returned (.tuple #[.int .i64 0,.bool false])/\Below (w.heap.size+1+1) W.drew w':=by
   have h1:=znt _ _ _ (k+1) q s W.drew (by omega) (by omega) HL.out.drew;unfold LitParts at h1;rw[HR.out] at h1;exact h1
  have HPL:=Lib.hid hpl;clear hpl
  go_region_with ((go_at_call 178;(with_reducible refine HPL.out.mono ?_);rintro e w' ⟨rfl,hb⟩;have HB:=Lib.hid hb;clear hb))
  all_goals
   go_wp2
   go_meet
   exact⟨rfl,rfl,by have:=HB.out;exact⟨this.os,this.tape,this.output,this.size,this.block⟩⟩
 case rest=>
  obtain⟨rfl,rfl,hb⟩:=hcut;obtain⟨⟨d0,d1,d2,d3,d4,d5,d6⟩,hfr⟩:=HZ.out.below hb (by omega);have HB:=Lib.hid hb;clear hb;go_wp2;refine bodyPost_ret (v:=.tuple #[.agg #[.int .i64 0,.int .i64 0,.string ⟨#[]⟩,.int .u64 0,.int .u64 0,.int .u64 0,.int .u64 0],.int .i64 0,.bool false]) (by simp[results,Tryz.results168,go_sem,d0,d1,d2,d3,d4,d5,d6]) rfl (LitlIs.no rfl ?_);exact zr2 (HB0.out.trans (HB.out.mono (by omega))) (Nat.le_succ _) _ _ _ _ _ _ _
theorem zpr (s:ByteArray)(k q m:Nat)(l:List Nat)(w:World)(hs:s.size<=1050000)(hlt:k<s.size)(hq:s[k].toNat=q)(hr:litE q ((bts s).drop (k+1))=some (l,m)) :
  Calls Tryz.prog 168 #[.string s,.int .i64 (k:Int)] w (LitlIs (some (l,m)) k w):=by
 have hlt':(k:Int)<(s.size:Int):=by omega
 have HR:=Lib.hid hr;obtain⟨n,hn⟩:∃n:Nat,k+1+m=n:=⟨_,rfl⟩;have HN:=Lib.hid hn;clear hr hn;go_enter Tryz.func168,Tryz.ntmps168;go_wp2;obtain⟨W,hW⟩:∃W,(((w.alloc (Obj.cells #[Value.string s] 9)).alloc (Obj.cells #[Value.int IntKind.i64 0,Value.int IntKind.i64 0,Value.string { data:=#[] },Value.int IntKind.u64 0,Value.int IntKind.u64 0,Value.int IntKind.u64 0,Value.int IntKind.u64 0] 168)).alloc (Obj.cells #[Value.slice none 0 0] 105))=W:=⟨_,rfl⟩;have hw:litW s w=W:=hW;rw[hW];have HL:Hid (LitAt w.heap.size (w.heap.size+1+1) (w.heap.size+1+1+1) s [] W):=Lib.hid (by rw[<-hw];exact zya s w);have HZ:Hid (Zero7 (w.heap.size+1) W):=Lib.hid (by rw[<-hw];exact znu s w);have HB0:Hid (Below w.heap.size w W):=Lib.hid (by rw[<-hw];exact zka s w);clear hW hw
 go_cut [5,6] (fun a b wx=>a=.int .i64 (n:Int)/\b=.bool true/\LitAt w.heap.size (w.heap.size+1+1) (w.heap.size+1+1+1) s l wx/\Below (w.heap.size+1+1) W wx/\∀x,x ∈ l->x<256)
 case first=>
  have c0:W.cell? ⟨w.heap.size,0,none⟩=some (.string s):=HL.out.2.1;have v1:IntKind.i64.wrap ((k:Int)+1)=(k:Int)+1:=IntWalk.i64_in _ (by omega);have hmf:∀(fn:Fn) (first cap:Array Value) (w:World),(Instr.makeFunc fn first cap).run Tryz.prog w=.ok (.func fn first cap) w:=fun _ _ _ _=>rfl
  have hpl:Calls Tryz.prog 178 #[.string s,.int .i64 ((k:Int)+1),.int .u8 (q:Int),.func (.func 179) #[] #[.pointer (some ⟨w.heap.size,0,none⟩),.pointer (some ⟨w.heap.size+1+1,0,none⟩)]] W.drew fun e w'=>e=.returned (.tuple #[.int .i64 (n:Int),.bool true])/\LitAt w.heap.size (w.heap.size+1+1) (w.heap.size+1+1+1) s l w'/\Below (w.heap.size+1+1) W.drew w'/\∀x,x ∈ l->x<256:=by
   have h1:=znt _ _ _ (k+1) q s W.drew (by omega) (by omega) HL.out.drew;unfold LitParts at h1;rw[HR.out] at h1;have h2:=HN.out;rw[<-h2];exact h1
  have HPL:=Lib.hid hpl;clear hpl
  go_region_with ((go_at_call 178;(with_reducible refine HPL.out.mono ?_);rintro e w' ⟨rfl,hl2,hb,hal⟩;have HB:=Lib.hid hb;have HL2:=Lib.hid hl2;have HAL:=Lib.hid hal;clear hb hl2 hal))
  all_goals
   go_wp2
   go_meet
   exact⟨rfl,rfl,HL2.out,by have:=HB.out;exact⟨this.os,this.tape,this.output,this.size,this.block⟩,HAL.out⟩
 case rest=>
  obtain⟨rfl,rfl,hl2,hb,hal⟩:=hcut;obtain⟨⟨d0,d1,d2,d3,d4,d5,d6⟩,hfr⟩:=HZ.out.below hb (by omega);obtain⟨-,-,-,v,c1,hrow⟩:=hl2;have hcv:=zzn (RowAt.of_owns hrow (zi9 _)) hal;have HB:=Lib.hid hb;clear hb hal hrow;go_wp2;refine bodyPost_ret (v:=.tuple #[.agg #[.int .i64 12,.int .i64 0,.string (strOf l),.int .u64 0,.int .u64 0,.int .u64 0,.int .u64 0],.int .i64 (n:Int),.bool true]) (by simp[results,Tryz.results168,go_sem,d0,d1,d2,d3,d4,d5,d6]) rfl (LitlIs.yes rfl (by rw[HN.out]) ?_);exact zr2 (HB0.out.trans (HB.out.mono (by omega))) (Nat.le_succ _) _ _ _ _ _ _ _
theorem zps (s:ByteArray)(k:Nat)(w:World)(hs:s.size<=1050000)(hlt:k<s.size) :
  Calls Tryz.prog 168 #[.string s,.int .i64 (k:Int)] w (LitlIs (litE s[k].toNat ((bts s).drop (k+1))) k w):=by
 cases hr:litE s[k].toNat ((bts s).drop (k+1)) with
 |none=>exact ztq s k _ w hs hlt rfl hr
 |some x=>obtain⟨l,m⟩:=x;exact zpr s k _ m l w hs hlt rfl hr
end
end Go.Proofs.YthhppmehhdlmnaaGreatDoor
