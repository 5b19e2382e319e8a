/- flow: the queue: Len, Less, Swap, Push, Pop; container/heap over it. flow: container/heap over the queue. flow: the queue with its marks: add, take, newQueue. -/
import Derived.Conc.MuLone
import Derived.Deep.QuietTactic
import Derived.Deep.RegionLaw
import Derived.RegionTactic
import Derived.Test.YthhppmehhdlmnaaGreatDoorPzMM
import Derived.Test.YthhppmehhdlmnaaGreatDoorPzFS
set_option maxRecDepth 100000
set_option maxHeartbeats 8000000
namespace Go.Proofs.YthhppmehhdlmnaaGreatDoor
open Go.RowKit
section
theorem z3p (B:Nat)(w:World):(Go.method 353 118 (.pointer (some ⟨B,0,none⟩)) "Len").run Tryz.prog w=.ok (77,.pointer (some ⟨B,0,none⟩)) w:=by kernel_rfl
theorem zvz (B:Nat)(w:World):(Go.method 353 118 (.pointer (some ⟨B,0,none⟩)) "Less").run Tryz.prog w=.ok (231,.pointer (some ⟨B,0,none⟩)) w:=by kernel_rfl
theorem zo5 (B:Nat)(w:World):(Go.method 353 118 (.pointer (some ⟨B,0,none⟩)) "Swap").run Tryz.prog w=.ok (234,.pointer (some ⟨B,0,none⟩)) w:=by kernel_rfl
theorem z5l (B:Nat)(w:World):(Go.method 353 118 (.pointer (some ⟨B,0,none⟩)) "Push").run Tryz.prog w=.ok (233,.pointer (some ⟨B,0,none⟩)) w:=by kernel_rfl
theorem z8h (B:Nat)(w:World):(Go.method 353 118 (.pointer (some ⟨B,0,none⟩)) "Pop").run Tryz.prog w=.ok (232,.pointer (some ⟨B,0,none⟩)) w:=by kernel_rfl
theorem z3q (args:Array Value)(w:World):(callFunc 77 args).run Tryz.prog w=.ok (.enter 77 args) w:=MuLone.run_callFunc_enter Tryz.func77 (by kernel_rfl) rfl args w
theorem zv0 (args:Array Value)(w:World):(callFunc 231 args).run Tryz.prog w=.ok (.enter 231 args) w:=MuLone.run_callFunc_enter Tryz.func231 (by kernel_rfl) rfl args w
theorem zo6 (args:Array Value)(w:World):(callFunc 234 args).run Tryz.prog w=.ok (.enter 234 args) w:=MuLone.run_callFunc_enter Tryz.func234 (by kernel_rfl) rfl args w
theorem z5m (args:Array Value)(w:World):(callFunc 233 args).run Tryz.prog w=.ok (.enter 233 args) w:=MuLone.run_callFunc_enter Tryz.func233 (by kernel_rfl) rfl args w
theorem z8i (args:Array Value)(w:World):(callFunc 232 args).run Tryz.prog w=.ok (.enter 232 args) w:=MuLone.run_callFunc_enter Tryz.func232 (by kernel_rfl) rfl args w
end
section
variable {base B:Nat} {hv:Value} {l:List Int} {w w1 w':World}
def QF (base B:Nat)(hv:Value)(l:List Int)(w:World):Prop:=∃a cap,Bl w B 155 #[.slice a l.length cap,hv]/\w.ownsRow base 3 1 (.slice a l.length cap) l.length (intsV l)
theorem QF.below (h:QF base B hv l w)(hb:Below w.heap.size w w'):QF base B hv l w':=by
 obtain⟨a,cap,hB,hO⟩:=h;exact⟨a,cap,hB.below hb,zaa hO hb⟩
theorem QF.lt (h:QF base B hv l w):B<w.heap.size:=by
 obtain⟨a,cap,hB,hO⟩:=h;exact hB.lt
def PermF (base B:Nat)(hv:Value)(l:List Int)(w w':World):Prop:=∃l',QF base B hv l' w'/\l'.Perm l/\Kp base B B 3 w w'
theorem PermF.refl (h:QF base B hv l w):PermF base B hv l w w:=⟨l,h,List.Perm.refl _,Kp.of_below (Below.refl _ _)⟩
theorem PermF.below (h:PermF base B hv l w w1)(hb:Below w1.heap.size w1 w'):PermF base B hv l w w':=by
 obtain⟨l',h1,h2,h3⟩:=h;exact⟨l',h1.below hb,h2,h3.trans (Kp.of_below hb)⟩
theorem PermF.trans {l1:List Int}(hp:l1.Perm l)(hk:Kp base B B 3 w w1)(h:PermF base B hv l1 w1 w'):PermF base B hv l w w':=by
 obtain⟨l',h1,h2,h3⟩:=h;exact⟨l',h1,h2.trans hp,hk.trans h3⟩
theorem PermF.drew (h:PermF base B hv l w w'):PermF base B hv l w w'.drew:=h.below ((Below.refl _ _).drew)
theorem zhk (base B:Nat)(hv:Value)(l:List Int)(w:World)(h:QF base B hv l w):Calls Tryz.prog 77 #[.pointer (some ⟨B,0,none⟩)] w fun e w'=>e=.returned (.int .i64 (l.length:Int))/\w'=w:=by
 obtain⟨a,cap,hB,-⟩:=h;have b0:w.cell? ⟨B,0,none⟩=some (.slice a l.length cap):=hB.cell (o:=0) rfl;have lb:=hB.lt;clear hB;go_enter Tryz.func77,Tryz.ntmps77;go_wp2;go_ret;exact⟨rfl,rfl⟩
theorem zbq (base B i j:Nat)(hv:Value)(l:List Int)(x y:Int)(b:Bool)(w:World)(h:QF base B hv l w)(hx:l[i]?=some x)(hy:l[j]?=some y)(hb:decide (x<y)=b) :
  Calls Tryz.prog 231 #[.pointer (some ⟨B,0,none⟩),.int .i64 (i:Int),.int .i64 (j:Int)] w fun e w'=>e=.returned (.bool b)/\Below w.heap.size w w':=by
 subst hb;have hi:=(List.getElem?_eq_some_iff.1 hx).1;have hj:=(List.getElem?_eq_some_iff.1 hy).1;obtain⟨a,cap,hB,hO⟩:=h;obtain⟨g,rfl,-,hc,-⟩:=zan hO (by omega);have b0:w.cell? ⟨B,0,none⟩=some (.slice (some ⟨g,0,none⟩) l.length cap):=hB.cell (o:=0) rfl;have lb:=hB.lt;have cx:=hc i (.int .i64 x) (by unfold intsV;rw[List.getElem?_map,hx];rfl);have cy:=hc j (.int .i64 y) (by unfold intsV;rw[List.getElem?_map,hy];rfl);have k1:(i:Int)<(l.length:Int):=by omega
 have k2:(j:Int)<(l.length:Int):=by omega
 clear hB hO hc hx hy hi hj;go_enter Tryz.func231,Tryz.ntmps231;go_wp2;go_quiet (fail);go_wp2;go_ret;exact⟨rfl,by first|exact zak (Below.refl _ _)|exact(Below.refl _ _).drew|exact Below.refl _ _⟩
theorem z0q {g i j c:Nat}{x y:Int}(hB:Bl w B 155 #[.slice (some ⟨g,0,none⟩) l.length c,hv])(hO:w.ownsRow base 3 1 (.slice (some ⟨g,0,none⟩) l.length c) l.length (intsV l))(hx:l[i]?=some x)(hy:l[j]?=some y) :
  PermF base B hv l w ((w.setCell ⟨g,i,none⟩ (.int .i64 y)).setCell ⟨g,j,none⟩ (.int .i64 x)):=by
 obtain⟨hi,rfl⟩:=List.getElem?_eq_some_iff.1 hx;obtain⟨hj,rfl⟩:=List.getElem?_eq_some_iff.1 hy;have hne:B≠g:=by
  intro e;subst e;exact za9 hO ⟨_,_,hB⟩ (by decide) rfl
 have hbg:base<=g:=(hO.lt g rfl).1;obtain⟨cs,hk⟩:∃cs,w.heap[g]?=some (.cells cs 3 (0,0)):=by
  rcases hO.2 with⟨h,-⟩|⟨g',cap,cur,hv,-,hh,-⟩
  ·cases h
  ·injection hv with e1 e2 e3
   injection e1 with e1;injection e1 with e1;subst e1;exact⟨cur,hh⟩
 have h1:=zgk (j:=i) hO (.int .i64 l[j]);have h2:=zgk (j:=j) h1 (.int .i64 l[i]);have es:∀(l:List Int) (i:Nat) (x:Int),intsV (l.set i x)=(intsV l).set i (.int .i64 x):=fun l i x=>by unfold intsV;rw[List.map_set]
 rw[<-es,<-es] at h2;have hb2:=(hB.other (o:=i) hne (.int .i64 l[j])).other (o:=j) hne (.int .i64 l[i]);have hk2:=heap_setCell_same w g i _ _ (.int .i64 l[j]) hk;refine⟨(l.set i l[j]).set j l[i],⟨some ⟨g,0,none⟩,c,?_,?_⟩,List.set_set_perm hi hj,(Kp.set hk (.inr (.inr ⟨hbg,rfl⟩)) _).trans (Kp.set hk2 (.inr (.inr ⟨hbg,rfl⟩)) _)⟩
 ·rw[List.length_set,List.length_set];exact hb2
 ·rw[List.length_set,List.length_set];exact h2
theorem zej (base B i j:Nat)(hv:Value)(l:List Int)(w:World)(h:QF base B hv l w)(hi:i<l.length)(hj:j<l.length) :
  Calls Tryz.prog 234 #[.pointer (some ⟨B,0,none⟩),.int .i64 (i:Int),.int .i64 (j:Int)] w fun e w'=>(∃v,e=.returned v)/\PermF base B hv l w w':=by
 obtain⟨a,c,hB,hO⟩:=h;obtain⟨x,hx⟩:∃x,l[i]?=some x:=⟨_,List.getElem?_eq_getElem hi⟩;obtain⟨y,hy⟩:∃y,l[j]?=some y:=⟨_,List.getElem?_eq_getElem hj⟩;obtain⟨g,rfl,-,hc,hf⟩:=zan hO (by omega);have cx:=hc i (.int .i64 x) (by unfold intsV;rw[List.getElem?_map,hx];rfl);have cy:=hc j (.int .i64 y) (by unfold intsV;rw[List.getElem?_map,hy];rfl);have fx:=hf i;have fy:=hf j;have k1:(i:Int)<(l.length:Int):=by omega
 have k2:(j:Int)<(l.length:Int):=by omega
 have b0:w.cell? ⟨B,0,none⟩=some (.slice (some ⟨g,0,none⟩) l.length c):=hB.cell (o:=0) rfl;have lb:=hB.lt;have H1:=Lib.hid (z0q (w:=w) (i:=i) (j:=j) hB hO hx hy);have c3:(w.setCell ⟨g,i,none⟩ (.int .i64 y)).cell? ⟨g,j,none⟩=some (.int .i64 y):=zeu cx cy;have c4:(w.setCell ⟨g,j,none⟩ (.int .i64 x)).cell? ⟨g,i,none⟩=some (.int .i64 x):=zeu cy cx;clear hB hO hc hf hx hy hi hj;go_enter Tryz.func234,Tryz.ntmps234;go_wp2
 go_region
 go_wp2
 go_end0
 exact⟨⟨_,rfl⟩,H1.out.drew⟩
theorem z0r (base B:Nat)(hv:Value)(l:List Int)(x:Int)(w:World)(hQ:QF base B hv (l++[x]) w)(hl:l.length<=1000000) :
  Calls Tryz.prog 232 #[.pointer (some ⟨B,0,none⟩)] w fun e w'=>e=.returned (.iface 3 (.int .i64 x))/\QF base B hv l w'/\Kp base B B 3 w w':=by
 obtain⟨a,cap,hB,hO⟩:=hQ;have hlen:(l++[x]).length=l.length+1:=by simp
 rw[hlen] at hB hO;obtain⟨g,rfl,-,hc,hf⟩:=zan hO (by omega);have cx:=hc l.length (.int .i64 x) (by unfold intsV;rw[List.getElem?_map,List.getElem?_append_right (Nat.le_refl _),Nat.sub_self];rfl);have b0:w.cell? ⟨B,0,none⟩=some (.slice (some ⟨g,0,none⟩) (l.length+1) cap):=hB.cell (o:=0) rfl;have fb:=hB.free 0;have ew:IntKind.i64.wrap ((l.length:Int)+1-1)=(l.length:Int):=by rw[show(l.length:Int)+1-1=(l.length:Int) by omega];exact IntWalk.i64_in _ (by omega)
 have hcut:=zcy hO (k:=l.length) (by omega);have hcap:l.length+1<=cap:=by
  obtain⟨a1,c1,he,h,-⟩:=zbj hO;injection he with _ _ e3;omega
 have HB:=Lib.hid hB;rw[zbb,List.take_left' (zef l)] at hcut;have HC:=Lib.hid (ownsRow_setCell_other hcut (a:=⟨B,0,none⟩) (za9 hcut ⟨_,_,hB⟩ (by decide)) (.slice (some ⟨g,0,none⟩) l.length cap));clear hB hO hcut hc hf;go_enter Tryz.func232,Tryz.ntmps232;go_wp2;go_ret;exact⟨rfl,⟨_,cap,HB.out.set' _,HC.out⟩,Kp.set HB.out (.inl rfl) _⟩
theorem zv1 {c c5:Nat}{a a5:Option Addr}{x:Int}{w5:World}(hO:w.ownsRow base 3 1 (.slice a l.length c) l.length (intsV l))(hb:Below w.heap.size w w1)
  (ho:w5.ownsRow base 3 1 (.slice a5 (l.length+1) c5) (l.length+1) (intsV l++[.int .i64 x])) (hg:w1.grownBy w5 (Value.slice a l.length c).ownBlock) (hx:Bl w5 B 155 #[.slice a l.length c,hv]) :
  QF base B hv (l++[x]) (w5.setCell ⟨B,0,none⟩ (.slice a5 (l.length+1) c5))/\Kp base B B 3 w (w5.setCell ⟨B,0,none⟩ (.slice a5 (l.length+1) c5)):=by
 have h1:=ownsRow_setCell_other ho (a:=⟨B,0,none⟩) (za9 ho ⟨_,_,hx⟩ (by decide)) (.slice a5 (l.length+1) c5);have e:intsV (l++[x])=intsV l++[.int .i64 x]:=by unfold intsV;rw[List.map_append];rfl
 have h2:=zaa hO hb;refine⟨⟨a5,c5,?_,?_⟩,((Kp.of_below hb).trans (Kp.grown hg (fun g e=>?_))).trans (Kp.set hx (.inl rfl) _)⟩
 ·rw[List.length_append];exact hx.set' _
 ·rw[List.length_append,e];exact h1
 ·obtain⟨cs,fz,hc⟩:=Lib.ownsRow_kind h2 g e
  exact⟨(h2.lt g e).1,cs,fz,hc⟩
theorem zv2 (base B:Nat)(hv:Value)(l:List Int)(x:Int)(w:World)(hQ:QF base B hv l w)(hl:l.length<=1000000)(hbs:base<=w.heap.size) :
  Calls Tryz.prog 233 #[.pointer (some ⟨B,0,none⟩),.iface 3 (.int .i64 x)] w fun e w'=>(∃v,e=.returned v)/\QF base B hv (l++[x]) w'/\Kp base B B 3 w w':=by
 obtain⟨a,cap,hB,hO⟩:=hQ;obtain⟨ii,hii,hz0,hz1,hz2⟩:=info_parts za3;have b0:w.cell? ⟨B,0,none⟩=some (.slice a l.length cap):=hB.cell (o:=0) rfl;have fb:=hB.free 0;have lb:=hB.lt;have hta:=zet x;have HB:=Lib.hid hB;have HO:=Lib.hid hO;clear hB hO;go_enter Tryz.func233,Tryz.ntmps233;go_wp2
 go_region_law (refine zaw (by rfl) _ _ 29 (by rfl) base 3 ii _ 1 8 Tryz.underlying29 hii hz0 hz1 hz2 (by rfl) (by decide) (.slice a l.length cap) l.length _ (by simp[Act.eval]) (by refine zaa HO.out ?_;repeat (first|exact Below.refl _ _|refine Below.drew ?_|refine zae ?_ rfl _)) _ 1 1 [.int .i64 x] (by simp[Act.eval];rfl) (by rfl) (by refine Bl.news (t:=3) ?_;repeat (first|(refine Bl.new' ?_;simp;done)|refine Bl.drew ?_|refine Bl.past ?_)) (by simp[Value.oneCell']) (by unfold maxLen;omega) (by omega) (by simp;omega) ?_;intro a5 c5 w5 hown5 hgrow5 hat5;have hbw5:Hid (Below w.heap.size w (w.alloc (.cells #[.int .i64 x] 3)).drew):=Lib.hid (Below.drew (zae (Below.refl _ _) rfl _));have hg5:=(HB.out.below hbw5.out).grown hgrow5 (fun g e=>by obtain⟨c,fz,hc⟩:=Lib.ownsRow_kind (zaa HO.out hbw5.out) g e;exact⟨c,3,fz,hc,by decide⟩);have x0:=hg5.cell (o:=0) rfl;have xf:=hg5.free;have HO5:=Lib.hid hown5;have HG5:=Lib.hid hgrow5;have HX5:=Lib.hid hg5;clear hown5 hgrow5 hat5 hg5)
 all_goals
  go_wp2
  go_end0
  exact⟨⟨_,rfl⟩,zv1 HO.out hbw5.out HO5.out HG5.out HX5.out⟩
end
theorem z5n (base B:Nat)(hv:Value)(l:List Int)(j:Nat)(w:World)(hQ:QF base B hv l w)(hj:j<l.length)(hl:l.length<=1000000) :
  Calls Tryz.prog 71 #[.iface 118 (.pointer (some ⟨B,0,none⟩)),.int .i64 (j:Int)] w fun e w'=>(∃v,e=.returned v)/\PermF base B hv l w w':=by
 have m1:=zvz B;have m2:=zo5 B;have q1:=zv0;have q2:=zo6;go_enter Tryz.func71,Tryz.ntmps71;go_wp2
 go_loopw [1] (fun c wr=>∃(l':List Int) (j:Nat),c=.int .i64 (j:Int)/\QF base B hv l' wr/\l'.Perm l/\j<l'.length/\Kp base B B 3 w wr) (fun c _=>(intOf c).toNat)
 case atStart=>exact⟨l,j,rfl,hQ,List.Perm.refl _,hj,Kp.of_below (Below.refl _ _)⟩
 case round=>
  obtain⟨m,i,rfl,hQm,hpm,him,hkm⟩:=hrel;have hml:m.length<=1000000:=by rw[hpm.length_eq];exact hl
  have HK:=Lib.hid hkm;have HP:=Lib.hid hpm;have HQ:=Lib.hid hQm;by_cases h0:i=0
  ·subst h0
   clear hkm hpm hQm;go_wp2
   go_end0
   exact⟨⟨_,rfl⟩,_,HQ.out,HP.out,HK.out⟩
  ·obtain⟨p,hp⟩:∃p:Nat,((i:Int)-1)/2=(p:Int):=⟨(i-1)/2,by omega⟩
   have hpi:p<i:=by omega
   obtain⟨x,hx⟩:∃x,m[i]?=some x:=⟨_,List.getElem?_eq_getElem him⟩;obtain⟨y,hy⟩:∃y,m[p]?=some y:=⟨_,List.getElem?_eq_getElem (by omega)⟩;have HC:=Lib.hid (zbq base B i p hv m x y _ wr hQm hx hy rfl);have k1:((p:Int) == (i:Int))=false:=by rw[beq_eq_false_iff_ne];omega
   clear hkm hpm hQm hx hy;cases hxy:decide (x<y) with
   |false=>
    rw[hxy] at HC
    go_wp2_with (go_at_call 231;(with_reducible refine HC.out.mono ?_);rintro e w2 ⟨rfl,hb⟩;have HB2:=Lib.hid hb;clear hb)
    go_end0
    exact⟨⟨_,rfl⟩,_,HQ.out.below HB2.out,HP.out,HK.out.trans (Kp.of_below HB2.out)⟩
   |true=>
    rw[hxy] at HC
    go_wp2_with (first
     |(go_at_call 231;(with_reducible refine HC.out.mono ?_);rintro e w2 ⟨rfl,hb⟩;have HQ2:=Lib.hid (HQ.out.below hb);have HK2:=Lib.hid (HK.out.trans (Kp.of_below hb));clear hb)
     |(go_at_call 234;(with_reducible refine(zej base B p i hv m _ HQ2.out (by omega) him).mono ?_);rintro e w3 ⟨⟨v3,rfl⟩,hp3⟩;have HP3:=Lib.hid hp3;clear hp3))
    obtain⟨m',h1,h2,h3⟩:=HP3.out;exact⟨⟨m',p,rfl,h1,h2.trans HP.out,by rw[h2.length_eq];omega,HK2.out.trans h3⟩,by simp[intOf];omega⟩
theorem zv3 (base B n:Nat)(hv:Value)(l:List Int)(w:World)(hQ:QF base B hv l w)(hn:n<=l.length)(hn0:0<l.length)(hl:l.length<=1000000) :
  Calls Tryz.prog 72 #[.iface 118 (.pointer (some ⟨B,0,none⟩)),.int .i64 0,.int .i64 (n:Int)] w fun e w'=>(∃v,e=.returned v)/\PermF base B hv l w w':=by
 have m1:=zvz B;have m2:=zo5 B;have q1:=zv0;have q2:=zo6;go_enter Tryz.func72,Tryz.ntmps72;go_wp2
 go_loopw [7] (fun c wr=>∃(m:List Int) (j:Nat),c=.int .i64 (j:Int)/\QF base B hv m wr/\m.Perm l/\j<m.length/\Kp base B B 3 w wr) (fun c _=>l.length-(intOf c).toNat)
 case atStart=>exact⟨l,0,rfl,hQ,List.Perm.refl _,hn0,Kp.of_below (Below.refl _ _)⟩
 case round=>
  obtain⟨m,i,rfl,hQm,hpm,him,hkm⟩:=hrel;have hlen:=hpm.length_eq;have HQ:=Lib.hid hQm;have HP:=Lib.hid hpm;have HK:=Lib.hid hkm;have e1:(2:Int)*(i:Int)+1=((2*i+1:Nat):Int):=by omega
  obtain⟨p,hp⟩:∃p:Nat,p=2*i+1:=⟨_,rfl⟩;rw[<-hp] at e1;have w1:IntKind.i64.wrap ((2:Int)*(i:Int))=(2:Int)*(i:Int):=IntWalk.i64_in _ (by omega);have w2:IntKind.i64.wrap ((2:Int)*(i:Int)+1)=(p:Int):=by rw[e1];exact IntWalk.i64_in _ (by omega)
  have HIM:=Lib.hid him;have HLEN:=Lib.hid hlen;have HPI:=Lib.hid hp;clear hQm hkm hpm hQ e1;by_cases h0:n<=p
  ·have k1:(n:Int)<=(p:Int):=by omega
   clear him hlen hp h0;go_wp2;go_ret;exact⟨⟨_,rfl⟩,m,HQ.out,HP.out,HK.out⟩
  ·have k1:¬(n:Int)<=(p:Int):=by omega
   have k2:¬(p:Int)<0:=by omega
   obtain⟨x,hx⟩:∃x,m[i]?=some x:=⟨_,List.getElem?_eq_getElem him⟩;obtain⟨y,hy⟩:∃y,m[p]?=some y:=⟨_,List.getElem?_eq_getElem (by omega)⟩;have e2:(p:Int)+1=((p+1:Nat):Int):=by omega
   obtain⟨r,hr⟩:∃r:Nat,r=p+1:=⟨_,rfl⟩;rw[<-hr] at e2;have w3:IntKind.i64.wrap ((p:Int)+1)=(r:Int):=by rw[e2];exact IntWalk.i64_in _ (by omega)
   clear e2;have HX:=Lib.hid hx;have HY:=Lib.hid hy;have HPL:=Lib.hid (show p<m.length by omega);have HRI:=Lib.hid hr;by_cases h2:r<n
   ·have k3:(r:Int)<(n:Int):=by omega
    obtain⟨z,hz⟩:∃z,m[r]?=some z:=⟨_,List.getElem?_eq_getElem (by omega)⟩;have HZ:=Lib.hid hz;have HRL:=Lib.hid (show r<m.length by omega);clear hz hx hy him hlen hp hr h0 h2;cases hzy:decide (z<y) with
    |true=>
     cases hc:decide (z<x) with
     |false=>
      go_wp2_with (first
       |(go_at_call 231;(with_reducible refine(zbq base B r p hv m z y true _ HQ.out HZ.out HY.out hzy).mono ?_);rintro e w5 ⟨rfl,hb⟩;have HQ2:=Lib.hid (HQ.out.below hb);have HK2:=Lib.hid (HK.out.trans (Kp.of_below hb));clear hb)
       |(go_at_call 231;(with_reducible refine(zbq base B r i hv m z x false _ HQ2.out HZ.out HX.out hc).mono ?_);rintro e w6 ⟨rfl,hb⟩;have HQ3:=Lib.hid (HQ2.out.below hb);have HK3:=Lib.hid (HK2.out.trans (Kp.of_below hb));clear hb))
      go_ret;exact⟨⟨_,rfl⟩,m,HQ3.out,HP.out,HK3.out⟩
     |true=>
      go_wp2_with (first
       |(go_at_call 231;(with_reducible refine(zbq base B r p hv m z y true _ HQ.out HZ.out HY.out hzy).mono ?_);rintro e w5 ⟨rfl,hb⟩;have HQ2:=Lib.hid (HQ.out.below hb);have HK2:=Lib.hid (HK.out.trans (Kp.of_below hb));clear hb)
       |(go_at_call 231;(with_reducible refine(zbq base B r i hv m z x true _ HQ2.out HZ.out HX.out hc).mono ?_);rintro e w6 ⟨rfl,hb⟩;have HQ3:=Lib.hid (HQ2.out.below hb);have HK3:=Lib.hid (HK2.out.trans (Kp.of_below hb));clear hb)
       |(go_at_call 234;(with_reducible refine(zej base B i r hv m _ HQ3.out HIM.out HRL.out).mono ?_);rintro e w7 ⟨⟨v7,rfl⟩,hp4⟩;have HP4:=Lib.hid hp4;clear hp4))
      obtain⟨m',g1,g2,g3⟩:=HP4.out;exact⟨⟨m',r,rfl,g1,g2.trans HP.out,by rw[g2.length_eq];exact HRL.out,HK3.out.trans g3⟩,by have:=HPI.out;have:=HRI.out;have:=HIM.out;have:=HLEN.out;simp[intOf];omega⟩
    |false=>
     cases hc:decide (y<x) with
     |false=>
      go_wp2_with (first
       |(go_at_call 231;(with_reducible refine(zbq base B r p hv m z y false _ HQ.out HZ.out HY.out hzy).mono ?_);rintro e w5 ⟨rfl,hb⟩;have HQ2:=Lib.hid (HQ.out.below hb);have HK2:=Lib.hid (HK.out.trans (Kp.of_below hb));clear hb)
       |(go_at_call 231;(with_reducible refine(zbq base B p i hv m y x false _ HQ2.out HY.out HX.out hc).mono ?_);rintro e w6 ⟨rfl,hb⟩;have HQ3:=Lib.hid (HQ2.out.below hb);have HK3:=Lib.hid (HK2.out.trans (Kp.of_below hb));clear hb))
      go_ret;exact⟨⟨_,rfl⟩,m,HQ3.out,HP.out,HK3.out⟩
     |true=>
      go_wp2_with (first
       |(go_at_call 231;(with_reducible refine(zbq base B r p hv m z y false _ HQ.out HZ.out HY.out hzy).mono ?_);rintro e w5 ⟨rfl,hb⟩;have HQ2:=Lib.hid (HQ.out.below hb);have HK2:=Lib.hid (HK.out.trans (Kp.of_below hb));clear hb)
       |(go_at_call 231;(with_reducible refine(zbq base B p i hv m y x true _ HQ2.out HY.out HX.out hc).mono ?_);rintro e w6 ⟨rfl,hb⟩;have HQ3:=Lib.hid (HQ2.out.below hb);have HK3:=Lib.hid (HK2.out.trans (Kp.of_below hb));clear hb)
       |(go_at_call 234;(with_reducible refine(zej base B i p hv m _ HQ3.out HIM.out HPL.out).mono ?_);rintro e w7 ⟨⟨v7,rfl⟩,hp4⟩;have HP4:=Lib.hid hp4;clear hp4))
      obtain⟨m',g1,g2,g3⟩:=HP4.out;exact⟨⟨m',p,rfl,g1,g2.trans HP.out,by rw[g2.length_eq];exact HPL.out,HK3.out.trans g3⟩,by have:=HPI.out;have:=HRI.out;have:=HIM.out;have:=HLEN.out;simp[intOf];omega⟩
   ·have k3:¬(r:Int)<(n:Int):=by omega
    clear hx hy him hlen hp hr h0 h2;cases hc:decide (y<x) with
    |false=>
     go_wp2_with (go_at_call 231;(with_reducible refine(zbq base B p i hv m y x false _ HQ.out HY.out HX.out hc).mono ?_);rintro e w6 ⟨rfl,hb⟩;have HQ3:=Lib.hid (HQ.out.below hb);have HK3:=Lib.hid (HK.out.trans (Kp.of_below hb));clear hb)
     go_ret;exact⟨⟨_,rfl⟩,m,HQ3.out,HP.out,HK3.out⟩
    |true=>
     go_wp2_with (first
       |(go_at_call 231;(with_reducible refine(zbq base B p i hv m y x true _ HQ.out HY.out HX.out hc).mono ?_);rintro e w6 ⟨rfl,hb⟩;have HQ3:=Lib.hid (HQ.out.below hb);have HK3:=Lib.hid (HK.out.trans (Kp.of_below hb));clear hb)
       |(go_at_call 234;(with_reducible refine(zej base B i p hv m _ HQ3.out HIM.out HPL.out).mono ?_);rintro e w7 ⟨⟨v7,rfl⟩,hp4⟩;have HP4:=Lib.hid hp4;clear hp4))
     obtain⟨m',g1,g2,g3⟩:=HP4.out;exact⟨⟨m',p,rfl,g1,g2.trans HP.out,by rw[g2.length_eq];exact HPL.out,HK3.out.trans g3⟩,by have:=HPI.out;have:=HRI.out;have:=HIM.out;have:=HLEN.out;simp[intOf];omega⟩
theorem zs6 (base B:Nat)(hv:Value)(l:List Int)(x:Int)(w:World)(hQ:QF base B hv l w)(hl:l.length<=900000)(hbs:base<=w.heap.size) :
  Calls Tryz.prog 41 #[.iface 118 (.pointer (some ⟨B,0,none⟩)),.iface 3 (.int .i64 x)] w fun e w'=>(∃v,e=.returned v)/\PermF base B hv (l++[x]) w w':=by
 have m1:=z5l B;have m2:=z3p B;have q1:=z5m;have q2:=z3q;have HC:=Lib.hid (zv2 base B hv l x w hQ (by omega) hbs);have hl2:(l++[x]).length=l.length+1:=by simp
 have HL2:=Lib.hid hl2;have ew:IntKind.i64.wrap (((l.length+1:Nat):Int)-1)=(l.length:Int):=(by rw[show((l.length+1:Nat):Int)-1=(l.length:Int) by omega];exact IntWalk.i64_in _ (by omega));clear hQ hl2;go_enter Tryz.func41,Tryz.ntmps41
 go_wp2_with (first
  |(go_at_call 233;(with_reducible refine HC.out.mono ?_);rintro e w2 ⟨⟨v2,rfl⟩,hq2,hk2⟩;have HK2:=Lib.hid hk2;have HQ2:=Lib.hid hq2;clear hq2 hk2)
  |(go_at_call 77;(with_reducible refine(zhk base B hv _ _ HQ2.out).mono ?_);rintro e w3 ⟨rfl,hw⟩;obtain rfl:=hw.symm;rw[HL2.out];clear hw)
  |(go_at_call 71;(with_reducible refine(z5n base B hv (l++[x]) l.length _ HQ2.out (by rw[HL2.out];omega) (by rw[HL2.out];omega)).mono ?_);rintro e w4 ⟨⟨v4,rfl⟩,hp4⟩;have HP4:=Lib.hid hp4;clear hp4))
 go_end0
 exact⟨⟨_,rfl⟩,HP4.out.trans (List.Perm.refl _) HK2.out⟩
def PopF (base B:Nat)(hv:Value)(l:List Int)(w:World)(e:Ending)(w':World):Prop:=∃(x:Int) (m:List Int),e=.returned (.iface 3 (.int .i64 x))/\QF base B hv m w'/\(m++[x]).Perm l/\Kp base B B 3 w w'
theorem QF.last {base B:Nat}{hv:Value}{l:List Int}{w:World}(h:QF base B hv l w)(h0:0<l.length):∃m x,l=m++[x]/\QF base B hv (m++[x]) w:=by
 refine⟨l.dropLast,l.getLast (by intro e;rw[e] at h0;exact absurd h0 (Nat.lt_irrefl _)),?_,?_⟩
 ·rw[List.dropLast_concat_getLast]
 ·rw[List.dropLast_concat_getLast];exact h
theorem zv4 (base B n:Nat)(hv:Value)(l:List Int)(w:World)(hQ:QF base B hv l w)(hn:l.length=n+1)(hl:n<=900000) :
  Calls Tryz.prog 43 #[.iface 118 (.pointer (some ⟨B,0,none⟩))] w (PopF base B hv l w):=by
 have m1:=z3p B;have m2:=zo5 B;have m3:=z8h B;have q1:=z3q;have q2:=zo6;have q3:=z8i;have ew:IntKind.i64.wrap (((n+1:Nat):Int)-1)=(n:Int):=by rw[show((n+1:Nat):Int)-1=(n:Int) by omega];exact IntWalk.i64_in _ (by omega)
 have HC:=Lib.hid (zej base B 0 n hv l w hQ (by omega) (by omega));rw[show((0:Nat):Int)=0 from rfl] at HC;have HQ:=Lib.hid hQ;have HN:=Lib.hid hn;clear hQ hn;go_enter Tryz.func43,Tryz.ntmps43
 go_wp2_with (first
  |(go_at_call 77;(with_reducible refine(zhk base B hv _ _ HQ.out).mono ?_);rintro e w1 ⟨rfl,hw⟩;obtain rfl:=hw.symm;rw[HN.out];clear hw)
  |(go_at_call 234;(with_reducible refine HC.out.mono ?_);rintro e w2 ⟨⟨v2,rfl⟩,l2,hq2,hp2,hk2⟩;have HQ2:=Lib.hid hq2;have HP2:=Lib.hid hp2;have HK2:=Lib.hid hk2;have HL2:=Lib.hid (show l2.length=n+1 by rw[hp2.length_eq];exact HN.out);clear hq2 hp2 hk2)
  |(go_at_call 72;(with_reducible refine(zv3 base B n hv l2 _ HQ2.out (by rw[HL2.out];omega) (by rw[HL2.out];omega) (by rw[HL2.out];omega)).mono ?_);rintro e w3 ⟨⟨v3,rfl⟩,l3,hq3,hp3,hk3⟩;have HL3:=Lib.hid (show l3.length=n+1 by rw[hp3.length_eq];exact HL2.out);obtain⟨m,x,hlx,hq4⟩:=hq3.last (by rw[HL3.out];omega);have HM:=Lib.hid (show m.length=n by have:=HL3.out;rw[hlx] at this;simpa using this);have HQ3:=Lib.hid hq4;have HP3:=Lib.hid (show(m++[x]).Perm l by rw[<-hlx];exact hp3.trans HP2.out);have HK3:=Lib.hid (HK2.out.trans hk3);clear hq3 hp3 hk3 hq4 hlx)
  |(go_at_call 232;(with_reducible refine(z0r base B hv m x _ HQ3.out (by rw[HM.out];omega)).mono ?_);rintro e w4 ⟨rfl,hq5,hk5⟩;have HQ5:=Lib.hid hq5;have HK5:=Lib.hid (HK3.out.trans hk5);clear hq5 hk5))
 go_ret;exact⟨x,m,rfl,HQ5.out,HP3.out,HK5.out⟩
def delN (m:Nat->Bool)(k j:Nat):Bool:=m j && !(j == k)
theorem zv9 (m:Nat->Bool)(k:Nat):∀n,cnt m n<=cnt (delN m k) n+1
 |0=>Nat.zero_le _
 |n+1=>by
  show cnt m n+(m n).toNat<=cnt (delN m k) n+(delN m k n).toNat+1;by_cases e:n=k
  ·have hle:cnt m n=cnt (delN m k) n:=by
    have h1:cnt m n<=cnt (delN m k) n:=zhh n fun i hi hm=>by
                                       unfold delN;rw[hm];have:(i == k)=false:=by simp;omega
                                       rw[this];rfl
    have h2:cnt (delN m k) n<=cnt m n:=zhh n fun i hi hm=>by unfold delN at hm;rw[Bool.and_eq_true] at hm;exact hm.1
    omega
   have:=Bool.toNat_le (m n);omega
  ·have h1:=zv9 m k n
   have:delN m k n=m n:=by
                  unfold delN;have:(n == k)=false:=by simp;omega
                  rw[this];simp
   rw[this];omega
structure QI (n:Nat) (m:Nat->Bool) (l:List Int):Prop where
 nd:l.Nodup
 mem:∀x,x ∈ l↔∃j:Nat,x=(j:Int)/\j<n/\m j=true
 len:l.length<=cnt m n
theorem QI.le {n:Nat}{m:Nat->Bool}{l:List Int}(h:QI n m l):l.length<=n:=Nat.le_trans h.len (zmk m n)
theorem QI.add {n k:Nat}{m:Nat->Bool}{l l':List Int}(h:QI n m l)(hk:k<n)(hm:m k=false)(hp:l'.Perm (l++[(k:Int)])):QI n (ins m k) l':=by
 have hc:=zlh hk hm;have hl:=hp.length_eq;rw[List.length_append] at hl;refine⟨hp.nodup_iff.2 (List.nodup_append.2 ⟨h.nd,by simp,fun a ha b hb=>?_⟩),fun x=>?_,by have:=h.len;simp at hl;omega⟩
 ·rintro rfl
  obtain⟨j,e,-,hj⟩:=(h.mem a).1 ha;have:a=(k:Int):=by simpa using hb
  have:j=k:=by omega
  subst this;rw[hm] at hj;cases hj
 ·rw[hp.mem_iff,List.mem_append,h.mem]
  constructor
  ·rintro(⟨j,e,hj,hmj⟩|hx)
   ·exact⟨j,e,hj,zby hmj⟩
   ·exact⟨k,by simpa using hx,hk,zcf m k⟩
  ·rintro⟨j,e,hj,hmj⟩
   rcases zfk hmj with h|rfl
   ·exact .inl ⟨j,e,hj,h⟩
   ·exact .inr (by simp[e])
theorem QI.pop {n:Nat}{m:Nat->Bool}{l l1:List Int}{x:Int}(h:QI n m l)(hp:(l1++[x]).Perm l):∃k:Nat,x=(k:Int)/\k<n/\m k=true/\QI n (delN m k) l1:=by
 obtain⟨k,e,hk,hm⟩:=(h.mem x).1 (hp.mem_iff.1 (List.mem_append_right _ (by simp)));have hnd:=hp.nodup_iff.2 h.nd;obtain⟨n1,-,n3⟩:=List.nodup_append.1 hnd;have hl:=hp.length_eq;rw[List.length_append] at hl;refine⟨k,e,hk,hm,n1,fun y=>?_,by have:=h.len;have:=zv9 m k n;simp at hl;omega⟩;constructor
 ·intro hy
  obtain⟨j,ej,hj,hmj⟩:=(h.mem y).1 (hp.mem_iff.1 (List.mem_append_left _ hy));refine⟨j,ej,hj,?_⟩;have hne:j≠k:=by
   rintro rfl;exact n3 y hy x (by simp) (by rw[ej,e])
  unfold delN;rw[hmj];have:(j == k)=false:=by simp;omega
  rw[this];rfl
 ·rintro⟨j,ej,hj,hmj⟩
  unfold delN at hmj;rw[Bool.and_eq_true] at hmj;have hy:=hp.mem_iff.2 ((h.mem y).2 ⟨j,ej,hj,hmj.1⟩);rcases List.mem_append.1 hy with hy|hy
  ·exact hy
  ·exfalso
   have:y=x:=by simpa using hy
   have:j=k:=by omega
   subst this;simp at hmj
theorem QI.nil (n:Nat):QI n (fun _=>false) []:=⟨by simp,fun x=>by simp,Nat.zero_le _⟩
theorem BolAt.del {m:Nat->Bool}{n B k:Nat}{w:World}(h:BolAt m n B w)(hk:k<n):BolAt (delN m k) n B (w.setCell ⟨B,k,none⟩ (.bool false)):=by
 obtain⟨cs,h1,h2⟩:=h;refine⟨_,h1.set' _,fun j hj=>?_⟩;rw[Array.getElem?_setIfInBounds];unfold delN;by_cases e:k=j
 ·subst e
  have:=(Array.getElem?_eq_some_iff.1 (h2 k hk)).1;rw[if_pos rfl,if_pos this];simp
 ·rw[if_neg e,h2 j hj]
  have:(j == k)=false:=by simp;omega
  rw[this];simp
theorem Kp.wide {base x y:Nat}{t:TypeId}{w w':World}(h:Kp base x x t w w'):Kp base x y t w w':=⟨h.os,h.tape,h.output,h.size,fun k hk hx _ hc=>h.block k hk hx hx hc⟩
structure Qs (base n Q H:Nat) (m:Nat->Bool) (l:List Int) (W:World):Prop where
 q:QF base Q (.slice (some ⟨H,0,none⟩) n n) l W
 b:BolAt m n H W
 bq:base<=Q
 bh:base<=H
 i:QI n m l
section
variable {base n Q H:Nat} {m:Nat->Bool} {l:List Int} {W W':World}
theorem Qs.below (h:Qs base n Q H m l W)(hb:Below W.heap.size W W'):Qs base n Q H m l W':=⟨h.q.below hb,h.b.below hb,h.bq,h.bh,h.i⟩
theorem Qs.cell1 (h:Qs base n Q H m l W):W.cell? ⟨Q,1,none⟩=some (.slice (some ⟨H,0,none⟩) n n):=by
 obtain⟨a,c,hB,-⟩:=h.q;exact hB.cell (o:=1) rfl
theorem Qs.sz (h:Qs base n Q H m l W):base<=W.heap.size:=Nat.le_of_lt (Nat.lt_of_le_of_lt h.bq h.q.lt)
theorem QF.mark {hv v:Value}{k:Nat}{cs:Array Value}(h:QF base Q hv l W)(hB:Bl W H 4 cs):QF base Q hv l (W.setCell ⟨H,k,none⟩ v):=by
 obtain⟨a,c,hQ,hO⟩:=h;exact⟨a,c,hQ.other (hQ.ne hB (by decide)) _,ownsRow_setCell_other hO (a:=⟨H,k,none⟩) (za9 hO ⟨_,_,hB⟩ (by decide)) _⟩
theorem BolAt.kp {k1:Nat}(h:BolAt m n H W)(hq:QF base Q (.slice (some ⟨H,0,none⟩) n n) l W)(hk:Kp base Q k1 3 W W')(h1:k1=Q):BolAt m n H W':=by
 subst h1;obtain⟨a,c,hQ,hO⟩:=hq;obtain⟨cs,hB,hc⟩:=h;exact⟨cs,hk.bl hB (hB.ne hQ (by decide)) (hB.ne hQ (by decide)) (by decide),hc⟩
end
theorem zq9 (base n Q H k:Nat)(m:Nat->Bool)(l:List Int)(W:World)(h:Qs base n Q H m l W)(hk:k<n)(hn:n<=100000) :
  Calls Tryz.prog 75 #[.pointer (some ⟨Q,0,none⟩),.int .i64 (k:Int)] W fun e w'=>(∃v,e=.returned v)/\∃l',Qs base n Q H (ins m k) l' w'/\Kp base Q H 3 W w':=by
 have c1:=h.cell1;have c2:=h.b.cell hk;have lq:=h.q.lt;have k1:(k:Int)<(n:Int):=by omega
 have hl:=h.i.le;cases hm:m k with
 |true=>
  rw[hm] at c2;have H1:=Lib.hid h;clear h;go_enter Tryz.func75,Tryz.ntmps75;go_wp2
  go_end0
  refine⟨⟨_,rfl⟩,l,?_,Kp.of_below (Below.refl _ _)⟩;have he:∀j,ins m k j=m j:=fun j=>by
   unfold ins;by_cases e:j=k
   ·subst e;rw[hm];rfl
   ·have:(j == k)=false:=by simp;omega
    rw[this];simp
  have:ins m k=m:=funext he;rw[this];exact H1.out
 |false=>
  rw[hm] at c2;have z:=h.b.free k;obtain⟨cs,hB,-⟩:=id h.b;have lh:=hB.lt;have hQ1:=h.q.mark (k:=k) (v:=.bool true) hB;have hB1:=h.b.put hk;have hk1:Kp base Q H 3 W (W.setCell ⟨H,k,none⟩ (.bool true)):=Kp.set hB (.inr (.inl rfl)) _;have HC:=Lib.hid (zs6 base Q (.slice (some ⟨H,0,none⟩) n n) l (k:Int) _ hQ1 (by omega) (by have:=h.sz;simp[World.setCell];exact this));have H1:=Lib.hid h;have HQ1:=Lib.hid hQ1;have HB1:=Lib.hid hB1;have HK1:=Lib.hid hk1;clear h hB hQ1 hB1 hk1;go_enter Tryz.func75,Tryz.ntmps75
  go_wp2_with (go_at_call 41;(with_reducible refine HC.out.mono ?_);rintro e w2 ⟨⟨v2,rfl⟩,l2,hq2,hp2,hk2⟩;have HQ2:=Lib.hid hq2;have HP2:=Lib.hid hp2;have HK2:=Lib.hid hk2;clear hq2 hp2 hk2)
  go_end0
  exact⟨⟨_,rfl⟩,l2,⟨HQ2.out,HB1.out.kp HQ1.out HK2.out rfl,H1.out.bq,H1.out.bh,H1.out.i.add hk hm HP2.out⟩,HK1.out.trans HK2.out.wide⟩
def z8j (base n Q H:Nat)(m:Nat->Bool)(l:List Int)(W:World)(e:Ending)(w':World):Prop:=∃(k:Nat) (l':List Int),e=.returned (.int .i64 (k:Int))/\k<n/\m k=true/\l'.length+1=l.length/\Qs base n Q H (delN m k) l' w'/\Kp base Q H 3 W w'
theorem zwa (base n Q H:Nat)(m:Nat->Bool)(l:List Int)(W:World)(h:Qs base n Q H m l W)(hl:0<l.length)(hn:n<=100000) :
  Calls Tryz.prog 76 #[.pointer (some ⟨Q,0,none⟩)] W (z8j base n Q H m l W):=by
 obtain⟨p,hp⟩:∃p,l.length=p+1:=⟨l.length-1,by omega⟩;have hle:=h.i.le;have hta:=zet;have HC:=Lib.hid (zv4 base Q p (.slice (some ⟨H,0,none⟩) n n) l W h.q hp (by omega));have H1:=Lib.hid h;clear h;go_enter Tryz.func76,Tryz.ntmps76
 go_wp2_with (go_at_call 43;(with_reducible refine HC.out.mono ?_);rintro e w2 ⟨x,l2,rfl,hq2,hp2,hk2⟩;obtain⟨k,rfl,hk,hm,hi⟩:=H1.out.i.pop hp2;have hb2:=H1.out.b.kp H1.out.q hk2 rfl;have c1:w2.cell? ⟨Q,1,none⟩=some (.slice (some ⟨H,0,none⟩) n n):=(by obtain⟨a,c,hB,-⟩:=hq2;exact hB.cell (o:=1) rfl);have c2:=hb2.cell hk;rw[hm] at c2;have z:=hb2.free k;have lq:=hq2.lt;have k1:(k:Int)<(n:Int):=(by omega);have HQ2:=Lib.hid hq2;have HP2:=Lib.hid hp2;have HK2:=Lib.hid hk2;have HB2:=Lib.hid hb2;have HI:=Lib.hid hi;have HM:=Lib.hid hm;have HKN:=Lib.hid hk;clear hq2 hp2 hk2 hb2 hi hm)
 go_ret;obtain⟨cs,hB,-⟩:=id HB2.out;have hlen:=HP2.out.length_eq;rw[List.length_append] at hlen;exact⟨k,l2,rfl,HKN.out,HM.out,by simpa using hlen,⟨HQ2.out.mark hB,HB2.out.del HKN.out,H1.out.bq,H1.out.bh,HI.out⟩,HK2.out.wide.trans (Kp.set hB (.inr (.inl rfl)) _)⟩
end Go.Proofs.YthhppmehhdlmnaaGreatDoor
