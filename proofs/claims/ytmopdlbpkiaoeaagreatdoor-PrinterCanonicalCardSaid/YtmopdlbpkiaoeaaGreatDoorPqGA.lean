/- gram.First on a grammar in post-order. cmp.Compare at int, slices.BinarySearchFunc on rules, gram.Owner on rising roots. The reference's Few and Owner. The refe -/
import Derived.Deep.RegionHeld3
import Derived.IntWalk
import Derived.RegionTactic
import Derived.Deep.OwnRows
import Derived.ChangeAlike
import Derived.Maps.OwnOps
import Derived.Maps.OwnSet
import Derived.Laws.OwnMore
import Derived.Deep.Cut
import Derived.Lib.SmallJoins
import Derived.Test.YtmopdlbpkiaoeaaGreatDoorPqLexStr
import Derived.Test.YtmopdlbpkiaoeaaGreatDoorPqJ
import Derived.Test.YtmopdlbpkiaoeaaGreatDoorPqD
set_option maxRecDepth 100000
set_option maxHeartbeats 8000000
open Go.Value renaming slice->jf, pointer->jj
namespace Go.Proofs.YtmopdlbpkiaoeaaGreatDoor
open Go.Lib renaming hid->qaa
open Go.Proofs.Tryz renaming prog->qab, underlying4->qdw, underlying52->qcb, underlying9->qba
open Go.Result renaming andThen_ok->qcl
open Go.WideMaps renaming keyOf_string_mk->qej
open Go.World renaming size_alloc->qbl
open List renaming drop_eq_getElem_cons->qbr, foldl_append->qeu, getElem?_eq_getElem->qae, getElem?_eq_some_iff->qag, length_append->qad, length_cons->qah, length_drop->qa2, length_reverse->qcv, mem_of_getElem?->qan, take_length->qbz
open Nat renaming le_refl->qac, lt_of_lt_of_le->qaz, lt_succ_self->qas, not_lt_zero->qa3, sub_self->qb8, zero_le->qaj
open Go.RowKit
variable {c x:Int}{l:List Int}{B b base cap i k n:Nat}{a:Option Addr}{W w w':World}
theorem IntsAt.at' (h:IntsAt w (jf a n cap) l)(hx:l[i]?=some x):∃b off,a=some ⟨b,off,none⟩/\w.cell? ⟨b,off+i,none⟩=some (.int .i64 x):=by
 obtain⟨a',cap',e,h⟩:=h;injection e with e1 e2 e3;subst e1;rcases h with h|⟨b,off,rfl,hc⟩
 ·rw[h] at hx;simp at hx
 ·exact⟨b,off,rfl,hc i x hx⟩
theorem z0p (h:l[k]?=some x):(l.take (k+1)).reverse=x::(l.take k).reverse:=by
 rw[za3 l k x h,List.reverse_append];rfl
theorem zr0 (ra na:Option Addr)(rn rc nn nc:Nat)(x:Int)(hx:x<0)(w:World) :
  Calls qab 24 #[.agg #[jf ra rn rc,jf na nn nc],.int .i64 x] w fun e w'=>e=.returned (.int .i64 (-2))/\Below w.heap.size w w':=by
 go_enter Tryz.func24,Tryz.ntmps24;go_wp2;go_ret;exact⟨rfl,zaa _ _⟩
theorem zr1 (ra na:Option Addr)(rn rc nn nc:Nat)(ns:List PN)(hs:ns.length<=1000000):∀(f i:Nat) (w:World),i<f->i<ns.length->NodesAt w (jf na nn nc) ns ->
  Calls qab 24 #[.agg #[jf ra rn rc,jf na nn nc],.int .i64 (i:Int)] w fun e w'=>e=.returned (.int .i64 (exL ns i))/\Below w.heap.size w w'
 |0,i,w,h,_,_=>absurd h (qa3 _)
 |f+1,i,w,h,hi,hN=>by
  have IH:=fun(a:Int) (W:World) (ha:a<i) (hb:Below w.heap.size w W)=>(show Calls qab 24 #[.agg #[jf ra rn rc,jf na nn nc],.int .i64 a] W fun e w'=>e=.returned (.int .i64 (exL ns a))/\Below W.heap.size W w' by
   by_cases h0:a<0
   ·rw[zue ns a h0];exact zr0 _ _ _ _ _ _ a h0 W
   ·obtain⟨m,rfl⟩:∃m:Nat,a=m:=⟨a.toNat,U⟩
    exact zr1 ra na rn rc nn nc ns hs f m W U U (hN.kept hb (qac _)))
  have HI:=qaa IH;clear IH;obtain⟨n,hn⟩:∃n,ns[i]?=some n:=⟨_,qae hi⟩;have hE:=zqo ns (i:Int) U;rw[show(i:Int).toNat=i by omega,zdm hn] at hE;have HE:=qaa hE;have HB0:=qaa (Below.refl w.heap.size w);clear hE;obtain⟨-,a,ca,he,hA⟩:=hN;injection he with e1 e2 e3;subst e1 e2 e3;rcases hA with h0|⟨nb,no,rfl,hca⟩
  ·rw[h0] at hi;exact absurd hi (qa3 _)
  obtain⟨kv,c0,c1,c2,c3,c4,c5,c6,ci,cl⟩:=hca i n hn;have CI:=qaa ci;obtain⟨ka,kc,rfl,-⟩:=ci;have lb:=zai c0;have k1:(i:Int)<(ns.length:Int):=U
  have HC1:=qaa c1;unfold maxLen at cl;clear hca hn c0 c2 c3 c4 c5 c6;go_enter Tryz.func24,Tryz.ntmps24;go_wp2;clear c1
  go_loopw [5,6] (fun va vk wr=>∃(t:Nat) (a z:Int),t<=n.kids.length/\va=.int .i64 a/\vk=.int .i64 z/\z=(t:Int)-1 /\ -1<=a/\a<i/\zbi (exL ns) (n.kids.take t).reverse a=exL ns i/\Below w.heap.size w wr/\w.heap.size<wr.heap.size/\wr.cell? ⟨w.heap.size,1,none⟩=some (jf (some ⟨nb,no,none⟩) ns.length nc)/\wr.cell? ⟨w.heap.size,0,none⟩=some (jf ra rn rc)) (fun _ vk _=>(intOf vk+1).toNat)
  case atStart=>exact⟨n.kids.length,_,_,qac _,rfl,rfl,rfl,U,U,by rw[qbz];exact HE.out.symm,zaa _ _,jc,jc,jc⟩
  case round=>
   obtain⟨t,a,z,ht,rfl,rfl,hz,ha1,ha2,hch,hbw,hsw,b1,b0⟩:=hrel;have HCH:=qaa hch;have c1:=HC1.out;rw[<-(bcell hbw).1 _ _ lb] at c1;have CI2:=qaa (CI.out.kept hbw (qac _));have HW:=qaa hbw;have hsz:=hbw.size;clear hch hbw;by_cases ht0:t=0
   ·subst ht0
    obtain rfl:z=-1:=U
    have HR:Hid (a=exL ns i):=qaa (by have:=HCH.out;rw[List.take_zero] at this;exact this);clear hz ht;go_wp2;go_ret;exact⟨zfv HR.out,HW.out⟩
   ·obtain⟨k,rfl⟩:∃k,t=k+1:=⟨t-1,U⟩
    obtain rfl:z=(k:Int):=U
    clear hz ht0;obtain⟨x,hx⟩:∃x,n.kids[k]?=some x:=⟨_,qae U⟩;obtain⟨kb,ko,rfl,ck⟩:=CI2.out.at' hx;have hrv:=z0p hx;have k2:(k:Int)<(n.kids.length:Int):=U
    rw[hrv] at HCH;clear hx hrv;by_cases hxa:x=a
    ·subst hxa
     have q1:(x != x)=false:=jc
     by_cases he:exL ns x=-2
     ·have hq:exL ns (i:Int)=-2:=by rw[<-HCH.out,zcx he]
      have HQ:=qaa hq;have HC:=qaa (HI.out x wr ha2 HW.out);rw[he] at HC;clear he hq
      go_wp2_with (go_at_call 24;(with_reducible refine HC.out.mono ?_);rintro e w1 ⟨rfl,hb⟩;have HW1:=qaa (HW.out.trans (hb.mono hsz));clear hb)
      go_ret;exact⟨zfv HQ.out.symm,HW1.out⟩
     ·have hl:=zj5 ns x he
      have hs:=zcj (ex:=exL ns) (a:=x) (ks:=(n.kids.take k).reverse) he;rw[hs] at HCH;have HC:=qaa (HI.out x wr ha2 HW.out);generalize exL ns x=y at *;have q2:(y == -2)=false:=zae he;clear he hs
      go_wp2_with (go_at_call 24;(with_reducible refine HC.out.mono ?_);rintro e w1 ⟨rfl,hb⟩;have HW1:=qaa (HW.out.trans (hb.mono hsz));have b1':=(bcell hb).1 _ 1 hsw;have b0':=(bcell hb).1 _ 0 hsw;rw[b1] at b1';rw[b0] at b0';have hsw1:=qaz hsw hb.size;clear hb)
      go_roundw
      case rel=>exact⟨k,y,(k:Int)-1,U,rfl,rfl,rfl,U,U,HCH.out,HW1.out,hsw1,b1',b0'⟩
      case measure=>simp[intOf]
    ·have q1:(x != a)=true:=zah hxa
     have HQ:Hid (exL ns (i:Int)=-2):=qaa (by rw[<-HCH.out,zdd hxa]);go_wp2;go_ret;exact⟨zfv HQ.out.symm,HW.out⟩
theorem z0q (ra na:Option Addr)(rn rc nn nc:Nat)(ns:List PN)(hs:ns.length<=1000000)(a:Int)(ha:a<ns.length)(w:World)(hN:NodesAt w (jf na nn nc) ns) :
  Calls qab 24 #[.agg #[jf ra rn rc,jf na nn nc],.int .i64 a] w fun e w'=>e=.returned (.int .i64 (exL ns a))/\Below w.heap.size w w':=by
 by_cases h0:a<0
 ·rw[zue ns a h0];exact zr0 _ _ _ _ _ _ a h0 w
 ·obtain⟨m,rfl⟩:∃m:Nat,a=m:=⟨a.toNat,U⟩
  exact zr1 ra na rn rc nn nc ns hs (m+1) m w (qas _) U hN
theorem zp9 (rv:Value)(na:Option Addr)(nn nc:Nat)(rs:List PR)(ns:List PN)(w:World)(hs:ns.length<=1000000)(hR:RulesIn w rv rs)(hN:NodesAt w (jf na nn nc) ns) :
  Calls qab 83 #[.agg #[rv,jf na nn nc]] w fun e w'=>e=.returned (.bool (ordR ns rs (-1)))/\Below w.heap.size w w':=by
 have hN':=hN;obtain⟨-,na',nc',hne,-⟩:=hN';injection hne with n1 n2 n3;subst n1 n2 n3;obtain⟨hlr,ra,rc,rfl,hra⟩:=hR;unfold maxLen at hlr;have HX:=qaa (fun(a:Int) (W:World) (ha:a<ns.length) (hb:Below w.heap.size w W)=>z0q ra na rs.length rc ns.length nc ns hs a ha W (hN.kept hb (qac _)));clear hN;go_enter Tryz.func83,Tryz.ntmps83;go_wp2
 go_loopw [3,4] (fun vb vc wr=>∃(k:Nat) (b:Int),k<=rs.length/\vb=.int .i64 b/\vc=.int .i64 k /\ -1<=b/\b<(ns.length:Int)+1/\ordR ns (rs.drop k) b=ordR ns rs (-1)/\Below w.heap.size w wr/\w.heap.size<wr.heap.size/\wr.cell? ⟨w.heap.size,1,none⟩=some (jf na ns.length nc)/\wr.cell? ⟨w.heap.size,0,none⟩=some (jf ra rs.length rc)) (fun _ vc _=>rs.length-(intOf vc).toNat)
 case atStart=>exact⟨0,-1,qaj _,rfl,rfl,U,U,rfl,zaa _ _,jc,jc,jc⟩
 case round=>
  obtain⟨k,b,hk,rfl,rfl,hb1,hb2,ho,hbw,hsw,b1,b0⟩:=hrel;have HO:=qaa ho;clear ho;by_cases hlt:k<rs.length
  ·obtain⟨r,hr⟩:∃r,rs[k]?=some r:=⟨_,qae hlt⟩
   rcases hra with h0|⟨rb,ro,rfl,hca⟩
   ·rw[h0] at hlt;exact absurd hlt (qa3 _)
   obtain⟨c0,c1⟩:=(hca k r hr).kept hbw (qac _);have lb:=zai c0;have hcd:rs.drop k=r::rs.drop (k+1):=by
    obtain⟨h1,h2⟩:=qag.1 hr;rw[qbr h1,h2]
   rw[hcd] at HO;have k1:(k:Int)<(rs.length:Int):=U
   have HW:=qaa hbw;have hsz:=hbw.size;clear hca hr hbw hcd c0;by_cases h1:r.root<=b
   ·have HF:Hid (ordR ns rs (-1)=false):=qaa (by
     rw[<-HO.out];show(if r.root<=b∨(ns.length:Int)<=r.root∨exL ns r.root≠b then false else _)=false;rw[if_pos (Or.inl h1)])
    go_wp2;go_ret;exact⟨zap HF.out.symm,HW.out⟩
   ·by_cases h2:(ns.length:Int)<=r.root
    ·have HF:Hid (ordR ns rs (-1)=false):=qaa (by
      rw[<-HO.out];show(if r.root<=b∨(ns.length:Int)<=r.root∨exL ns r.root≠b then false else _)=false;rw[if_pos (Or.inr (Or.inl h2))])
     go_wp2;go_ret;exact⟨zap HF.out.symm,HW.out⟩
    ·have HC:=qaa (HX.out r.root wr U HW.out)
     by_cases h3:exL ns r.root=b
     ·have HT:=qaa (zug (t:=rs.drop (k+1)) U U h3)
      rw[h3] at HC;have q1:(b != b)=false:=jc
      clear h3
      go_wp2_with (go_at_call 24;(with_reducible refine HC.out.mono ?_);rintro e w1 ⟨rfl,hb⟩;have HW1:=qaa (HW.out.trans (hb.mono hsz));have b1':=(bcell hb).1 _ 1 hsw;have b0':=(bcell hb).1 _ 0 hsw;rw[b1] at b1';rw[b0] at b0';have d1:=(bcell hb).1 _ (ro+k*2+1) lb;rw[c1] at d1;have hsw1:=qaz hsw hb.size;clear hb)
      go_roundw
      case rel=>exact⟨k+1,r.root,U,rfl,by go_num,U,U,by rw[<-HT.out];exact HO.out,HW1.out,hsw1,b1',b0'⟩
      case measure=>simp[intOf];omega
     ·have HF:Hid (ordR ns rs (-1)=false):=qaa (by
       rw[<-HO.out];show(if r.root<=b∨(ns.length:Int)<=r.root∨exL ns r.root≠b then false else _)=false;rw[if_pos (Or.inr (Or.inr h3))])
      generalize exL ns r.root=y at HC h3;have q1:(y != b)=true:=zah h3;clear h3
      go_wp2_with (go_at_call 24;(with_reducible refine HC.out.mono ?_);rintro e w1 ⟨rfl,hb⟩;have HW1:=qaa (HW.out.trans (hb.mono hsz));clear hb)
      go_ret;exact⟨zap HF.out.symm,HW1.out⟩
  ·obtain rfl:k=rs.length:=U
   have k1:¬(rs.length:Int)<(rs.length:Int):=U
   have HF:Hid (ordR ns rs (-1)=(b == (ns.length:Int)-1)):=qaa (by rw[<-HO.out,List.drop_length];rfl);have HW:=qaa hbw;clear hbw hra;go_wp2;go_ret;exact⟨zap HF.out.symm,HW.out⟩
theorem ztm {f:Nat->Int->Nat}(h:l[k]?=some x):(l.take (k+1)).foldl f 0=f ((l.take k).foldl f 0) x:=by
 rw[za3 l k x h,qeu];rfl
theorem z4z (a b:Nat):Value.int .i64 (if a<b then (b:Int) else (a:Int))=.int .i64 ((max a b:Nat):Int):=by
 congr 1;split<;>omega
theorem depK {b0 nb kb k1 k2:Nat}{v0 v1 v2 v3:Value}{W':World}(hn:n<=w.heap.size)(hb:Below W.heap.size W W')(h:W.cell? ⟨b0,0,none⟩=some v0/\W.cell? ⟨b0,1,none⟩=some v1/\W.cell? ⟨nb,k1,none⟩=some v2/\W.cell? ⟨kb,k2,none⟩=some v3/\b0<W.heap.size/\Below n w W):W'.cell? ⟨b0,0,none⟩=some v0/\W'.cell? ⟨b0,1,none⟩=some v1/\W'.cell? ⟨nb,k1,none⟩=some v2/\W'.cell? ⟨kb,k2,none⟩=some v3/\b0<W'.heap.size/\Below n w W':=by
 obtain⟨h0,h1,h2,h3,h4,h5⟩:=h;have hc:=(bcell hb).1;exact⟨by rw[hc _ _ h4];exact h0,by rw[hc _ _ h4];exact h1,by rw[hc _ _ (zai h2)];exact h2,by rw[hc _ _ (zai h3)];exact h3,qaz h4 hb.size,h5.trans (hb.mono (Nat.le_trans hn h5.size))⟩
theorem zn4 (ra na:Option Addr)(rn rc nn nc:Nat)(ns:List PN)(hs:ns.length<=1000000)(hK:zdo ns):∀(m i:Nat) (z:Int) (w:World),z=(m:Int)->m<=1000->i<ns.length->NodesAt w (jf na nn nc) ns ->
  Calls qab 84 #[.agg #[jf ra rn rc,jf na nn nc],.int .i64 (i:Int),.int .i64 z] w fun e w'=>e=.returned (.int .i64 (rdF ns m i:Int))/\Below w.heap.size w w'
 |0,i,z,w,hz,hm,hi,hN=>by
  obtain rfl:z=0:=U
  obtain⟨n,hn⟩:∃n,ns[i]?=some n:=⟨_,qae hi⟩;obtain⟨-,a,ca,he,hA⟩:=hN;injection he with e1 e2 e3;subst e1 e2 e3;rcases hA with h0|⟨nb,no,rfl,hca⟩
  ·rw[h0] at hi;exact absurd hi (qa3 _)
  obtain⟨kv,c0,c1,c2,c3,c4,c5,c6,ci,cl⟩:=hca i n hn;obtain⟨ka,kc,rfl,-⟩:=ci;have lb:=zai c0;have k1:(i:Int)<(ns.length:Int):=U
  unfold maxLen at cl;clear hca hn c0 c2 c3 c4 c5 c6 hz;go_enter Tryz.func84,Tryz.ntmps84;go_wp2
  go_loop [7,8] (fun d c=>d=.int .i64 0/\c=.int .i64 0) (fun _ _=>0)
  case atStart=>exact⟨rfl,rfl⟩
  case round=>
   obtain⟨rfl,rfl⟩:=hrel;by_cases h0:0<n.kids.length
   ·have k2:(0:Int)<(n.kids.length:Int):=U
    go_wp2;go_ret;exact⟨rfl,zaa _ _⟩
   ·have k2:¬(0:Int)<(n.kids.length:Int):=U
    go_wp2;go_ret;exact⟨rfl,zaa _ _⟩
 |m+1,i,z,w,hz,hm,hi,hN=>by
  have IH:=fun(a:Int) (W:World) (ha0:0<=a) (ha:a<i) (hb:Below w.heap.size w W)=>(show Calls qab 84 #[.agg #[jf ra rn rc,jf na nn nc],.int .i64 a,.int .i64 (m:Int)] W fun e w'=>e=.returned (.int .i64 (rdF ns m a:Int))/\Below W.heap.size W w' by
   obtain⟨k,rfl⟩:∃k:Nat,a=k:=⟨a.toNat,U⟩;exact zn4 ra na rn rc nn nc ns hs hK m k m W rfl U U (hN.kept hb (qac _)))
  have HI:=qaa IH;clear IH;have ez:z-1=(m:Int):=U
  have ew:IntKind.i64.wrap (m:Int)=(m:Int):=IntWalk.i64_in _ U;have z0:(0:Int)<z:=U
  have z1:z<=1000:=U
  clear hz;obtain⟨n,hn⟩:∃n,ns[i]?=some n:=⟨_,qae hi⟩;have HK:=qaa (hK i n hn);have HR:Hid (rdF ns (m+1) i=n.kids.foldl (fun d k=>max d (rdF ns m k)) 0+1):=qaa (by
   show(zd6 ns (i:Int).toNat).foldl (fun d k=>max d (rdF ns m k)) 0+1=_;rw[show(i:Int).toNat=i by omega,zdm hn])
  have hle:rdF ns (m+1) i<=m+2:=by rw[zuk hK (m+1) i U U];omega
  obtain⟨-,a,ca,he,hA⟩:=hN;injection he with e1 e2 e3;subst e1 e2 e3;rcases hA with h0|⟨nb,no,rfl,hca⟩
  ·rw[h0] at hi;exact absurd hi (qa3 _)
  obtain⟨kv,c0,c1,c2,c3,c4,c5,c6,ci,cl⟩:=hca i n hn;have CI:=qaa ci;obtain⟨ka,kc,rfl,-⟩:=ci;have lb:=zai c0;have k1:(i:Int)<(ns.length:Int):=U
  have HC1:=qaa c1;unfold maxLen at cl;clear hca hn c0 c2 c3 c4 c5 c6;go_enter Tryz.func84,Tryz.ntmps84;go_wp2;clear c1
  go_loopw [7,8] (fun vd vk wr=>∃(k d:Nat),k<=n.kids.length/\vd=.int .i64 d/\vk=.int .i64 k/\d=(n.kids.take k).foldl (fun d k=>max d (rdF ns m k)) 0/\Below w.heap.size w wr/\w.heap.size<wr.heap.size/\wr.cell? ⟨w.heap.size,0,none⟩=some (jf ra rn rc)/\wr.cell? ⟨w.heap.size,1,none⟩=some (jf (some ⟨nb,no,none⟩) ns.length nc)) (fun _ vk _=>n.kids.length-(intOf vk).toNat)
  case atStart=>exact⟨0,0,qaj _,rfl,rfl,rfl,zaa _ _,jc,jc,jc⟩
  case round=>
   obtain⟨k,d,hk,rfl,rfl,hd,hbw,hsw,b0,b1⟩:=hrel;have HD:=qaa hd;have c1:=HC1.out;rw[<-(bcell hbw).1 _ _ lb] at c1;have CI2:=qaa (CI.out.kept hbw (qac _));clear hd;by_cases hlt:k<n.kids.length
   ·obtain⟨x,hx⟩:∃x,n.kids[k]?=some x:=⟨_,qae hlt⟩
    obtain⟨kb,ko,rfl,ck⟩:=CI2.out.at' hx;have hkx:=HK.out x (qan hx);have HF:=qaa (ztm (f:=fun d k=>max d (rdF ns m k)) hx);have HC:=qaa (fun W hW=>HI.out x W hkx.1 hkx.2 hW);rw[<-HD.out] at HF;generalize rdF ns m x=y at HF HC;have k2:(k:Int)<(n.kids.length:Int):=U
    have HW:=qaa hbw;clear hx hkx;go_wp2;obtain⟨n0,hn0⟩:∃n0,w.heap.size=n0:=⟨_,rfl⟩;have hnw:n0<=w.heap.size:=Nat.le_of_eq hn0.symm;have HN0:=qaa hn0;have hS:(fun W:World=>W.cell? ⟨w.heap.size,0,none⟩=some (jf ra rn rc)/\W.cell? ⟨w.heap.size,1,none⟩=some (jf (some ⟨nb,no,none⟩) ns.length nc)/\W.cell? ⟨nb,no+i*7+1,none⟩=some (jf (some ⟨kb,ko,none⟩) n.kids.length kc)/\W.cell? ⟨kb,ko+k,none⟩=some (.int .i64 x)/\w.heap.size<W.heap.size/\Below n0 w W) wr.drew:=⟨b0,b1,c1,ck,hsw,by rw[<-hn0];exact HW.out.drew⟩;clear hn0 b0 b1 c1 ck hsw HW hbw;dsimp only at hS
    go_region_held3 (fun W=>W.cell? ⟨w.heap.size,0,none⟩=some (jf ra rn rc)/\W.cell? ⟨w.heap.size,1,none⟩=some (jf (some ⟨nb,no,none⟩) ns.length nc)/\W.cell? ⟨nb,no+i*7+1,none⟩=some (jf (some ⟨kb,ko,none⟩) n.kids.length kc)/\W.cell? ⟨kb,ko+k,none⟩=some (.int .i64 x)/\w.heap.size<W.heap.size/\Below n0 w W) (first|exact hS)
     (first|(go_at_call 84;with_reducible refine(HC.out _ (by rw[HN0.out];exact hS.2.2.2.2.2)).mono ?_;rintro ev w3 ⟨rfl,hb⟩;replace hS:=depK hnw hb hS;clear hb))
    obtain⟨b0,b1,-,-,hsw,hb3⟩:=hS;have HB3:=qaa hb3;clear hb3;go_wp2;go_roundw
    case rel=>exact⟨k+1,max d y,U,by first|exact z4z d y|exact congrArg (Value.int .i64) U,by go_num,HF.out.symm,by rw[HN0.out];exact HB3.out,hsw,b0,b1⟩
    case measure=>simp[intOf];omega
   ·obtain rfl:k=n.kids.length:=U
    have HQ:Hid (rdF ns (m+1) i=d+1):=qaa (by rw[HR.out,HD.out,qbz]);have hd1:(d:Int)+1<=2000:=by have:=HQ.out;omega
    have hd0:(0:Int)<=(d:Int):=U
    have k2:¬(n.kids.length:Int)<(n.kids.length:Int):=U
    have HW:=qaa hbw;clear hbw hle;go_wp2;go_ret;exact⟨zfv (by rw[HQ.out];omega),HW.out⟩
def NAt (f:Nat->Nat)(n B:Nat)(w:World):Prop:=∀j,j<n->w.cell? ⟨B,j,none⟩=some (.int .i64 (f j:Int))/\w.frozen? ⟨B,j,none⟩=false
def updN (f:Nat->Nat)(i x:Nat):Nat->Nat:=fun j=>if j=i then x else f j
theorem NAt.put {f:Nat->Nat}{x:Nat}(h:NAt f n B w):NAt (updN f i x) n B (w.setCell ⟨B,i,none⟩ (.int .i64 (x:Int))):=fun j hj=>by
 refine⟨?_,by rw[World.frozen?_setCell];exact(h j hj).2⟩;unfold updN;by_cases e:j=i
 ·subst e;rw[World.cell?_setCell_same' _ _ _ (by rw[(h _ hj).1];rfl)];simp
 ·rw[World.cell?_setCell_other _ _ _ _ (by intro hh;injection hh with _ h2;exact e h2.symm),(h j hj).1];simp[e]
theorem NAt.put' {f:Nat->Nat}{x:Nat}{y:Int}(h:NAt f n B w)(hy:y=x):NAt (updN f i x) n B (w.setCell ⟨B,i,none⟩ (.int .i64 y)):=by subst hy;exact h.put
theorem NAt.drew {f:Nat->Nat}(h:NAt f n B w):NAt f n B w.drew:=h
theorem NAt.below {f:Nat->Nat}(h:NAt f n B w)(hb:Below k w w')(hB:B<k):NAt f n B w':=fun j hj=>by
 have hc:=bcell hb;exact⟨by rw[hc.1 _ _ hB];exact(h j hj).1,by rw[hc.2 _ _ hB];exact(h j hj).2⟩
theorem NAt.congr {f g:Nat->Nat}(h:NAt f n B w)(e:∀j,j<n->f j=g j):NAt g n B w:=fun j hj=>by rw[<-e j hj];exact h j hj
theorem IntsAt.at (h:IntsAt w (jf a n cap) l)(hx:l[i]?=some x):∃b off,a=some ⟨b,off,none⟩/\w.cell? ⟨b,off+i,none⟩=some (.int .i64 x):=by
 obtain⟨a',cap',e,h⟩:=h;injection e with e1 e2 e3;subst e1;rcases h with h|⟨b,off,rfl,hc⟩
 ·rw[h] at hx;simp at hx
 ·exact⟨b,off,rfl,hc i x hx⟩
theorem NAt.made (w:World)(n:Nat)(t:TypeId):NAt (fun _=>0) n w.heap.size (w.alloc (.cells (madeCells #[.int .i64 0] n) t)):=fun j hj=>by
 have hb:(w.alloc (.cells (madeCells #[.int .i64 0] n) t)).heap[w.heap.size]?=some (.cells (madeCells #[.int .i64 0] n) t):=heap_alloc_new w _;refine⟨?_,jc⟩;rw[Lib.cell_of_heap hb];simp[madeCells,hj,Nat.mod_one]
theorem ztn (ra:Option Addr)(rn rc:Nat)(nv:Value)(ns:List PN)(w:World)(hN:NodesAt w nv ns)(hs:ns.length<=1000000)(hK:zdo ns) :
  Calls qab 94 #[.agg #[jf ra rn rc,nv]] w fun e w'=>(∃B cap,e=.returned (jf (some ⟨B,0,none⟩) ns.length cap)/\w.heap.size<=B/\B<w'.heap.size/\NAt (dpL ns) ns.length B w')/\Below w.heap.size w w':=by
 obtain⟨hl,a,ca,rfl,ha⟩:=hN;have hmk:=fun w=>run_make_row' (P:=qab) 52 3 (.int .i64 0) 8 qcb zd1 rfl .i64 .i64 ns.length U U w
 go_enter Tryz.func94,Tryz.ntmps94;go_wp2;have hD:NAt (fun _=>0) ns.length (w.heap.size+1) ((w.alloc (.cells #[jf ra rn rc,jf a ns.length ca] 25)).alloc (.cells (madeCells #[.int .i64 0] ns.length) 3)):=by
  have:=NAt.made (w.alloc (.cells #[jf ra rn rc,jf a ns.length ca] 25)) ns.length 3;rw[qbl] at this;exact this
 obtain⟨W,hW⟩:∃W,((w.alloc (.cells #[jf ra rn rc,jf a ns.length ca] 25)).alloc (.cells (madeCells #[.int .i64 0] ns.length) 3))=W:=⟨_,rfl⟩;have hb0:Below w.heap.size w W:=by rw[<-hW];exact zbo w _ _
 have hz0:w.heap.size+1<W.heap.size:=by rw[<-hW];simp
 rw[hW] at hD ⊢;have HB0:=qaa hb0;have HD0:=qaa hD;clear hW hb0 hD hmk
 go_loopw [15] (fun c wr=>∃(i:Nat),i<=ns.length/\c=.int .i64 i/\Below w.heap.size w wr/\w.heap.size+1<wr.heap.size/\NAt (fun j=>if j<i then dpL ns j else 0) ns.length (w.heap.size+1) wr) (fun c _=>ns.length-(intOf c).toNat)
 case atStart=>exact⟨0,qaj _,rfl,HB0.out,hz0,HD0.out⟩
 case round=>
  obtain⟨i,hi,rfl,hbw,hzw,hnat⟩:=hrel;have HW:=qaa hbw;have HD:=qaa hnat;have hsz:=hbw.size;by_cases hlt:i<ns.length
  ·obtain⟨n,hn⟩:∃n,ns[i]?=some n:=⟨_,qae hlt⟩
   rcases ha with h0|⟨nb,no,rfl,hca⟩
   ·rw[h0] at hlt;exact absurd hlt (qa3 _)
   have hNi:=hca i n hn;obtain⟨kv,c0,c1,c2,c3,c4,c5,c6,ci,cl⟩:=hNi.kept hbw (qac _);obtain⟨kv',-,g1,-,-,-,-,-,gi,-⟩:=hNi;have ekv:kv'=kv:=by
    have:=(bcell hbw).1 nb (no+i*7+1) (zai g1);rw[c1,g1] at this;exact(Option.some.inj this).symm
   subst ekv;have GI:=qaa gi;obtain⟨ka,kc,rfl,-⟩:=ci;have lb:=zai c0;have k1:(i:Int)<(ns.length:Int):=U
   have HK:=qaa (hK i n hn);have HE:=qaa (zqs hK hn);unfold maxLen at cl;clear hca hn hbw hnat gi g1;go_wp2;obtain⟨W1,hW1⟩:∃W1,(wr.alloc (.cells #[.int .i64 n.op,jf ka n.kids.length kc,.int .i64 n.rule,.int .u64 n.s0,.int .u64 n.s1,.int .u64 n.s2,.int .u64 n.s3] 54))=W1:=⟨_,rfl⟩;have hb1:Below w.heap.size w W1:=by rw[<-hW1];exact HW.out.alloc hsz _
   have hz1:w.heap.size+1<W1.heap.size:=by rw[<-hW1];simp;omega
   have hd1:NAt (updN (fun j=>if j<i then dpL ns j else 0) i 0) ns.length (w.heap.size+1) W1:=by
    rw[<-hW1];refine(HD.out.below (zaa wr _) hzw).congr (fun j _=>?_);unfold updN;by_cases e:j=i
    ·subst e;simp
    ·simp[e]
   rw[hW1];have HB1:=qaa hb1;have HD1:=qaa hd1;clear hW1 hb1 hd1 c0 c1 c2 c3 c4 c5 c6
   go_loopw [23] (fun c wq=>∃(t:Nat),t<=n.kids.length/\c=.int .i64 t/\Below w.heap.size w wq/\w.heap.size+1<wq.heap.size/\NAt (updN (fun j=>if j<i then dpL ns j else 0) i ((n.kids.take t).foldl (fun m k=>max m ((depsL ns).getD k.toNat 0)) 0)) ns.length (w.heap.size+1) wq) (fun c _=>n.kids.length-(intOf c).toNat)
   case atStart=>exact⟨0,qaj _,rfl,HB1.out,hz1,HD1.out⟩
   case round=>
    obtain⟨t,ht,rfl,hbq,hzq,hdq⟩:=hrel;by_cases htl:t<n.kids.length
    ·obtain⟨k,hk⟩:∃k,n.kids[t]?=some k:=⟨_,qae htl⟩
     obtain⟨kb,ko,rfl,ck⟩:=(GI.out.kept hbq (qac _)).at hk;have hkb:=HK.out k (qan hk);obtain⟨m,rfl⟩:∃m:Nat,k=m:=⟨k.toNat,U⟩;have hts:=za3 n.kids t _ hk;have hd2:=hdq i hlt;have hd3:=hdq m U;have e2:updN (fun j=>if j<i then dpL ns j else 0) i ((n.kids.take t).foldl (fun m k=>max m ((depsL ns).getD k.toNat 0)) 0) i=(n.kids.take t).foldl (fun m k=>max m ((depsL ns).getD k.toNat 0)) 0:=if_pos rfl;have e3:updN (fun j=>if j<i then dpL ns j else 0) i ((n.kids.take t).foldl (fun m k=>max m ((depsL ns).getD k.toNat 0)) 0) m=dpL ns m:=by
      unfold updN;rw[if_neg U];exact if_pos U
     rw[e2] at hd2;rw[e3] at hd3;have HT:Hid ((n.kids.take (t+1)).foldl (fun m k=>max m ((depsL ns).getD k.toNat 0)) 0=max ((n.kids.take t).foldl (fun m k=>max m ((depsL ns).getD k.toNat 0)) 0) (dpL ns m)):=qaa (by rw[hts,qeu];rfl);generalize (n.kids.take t).foldl (fun m k=>max m ((depsL ns).getD k.toNat 0)) 0=M at *;generalize dpL ns m=D at *;obtain⟨c8,f8⟩:=hd2;obtain⟨c9,f9⟩:=hd3;have k2:(m:Int)<(i:Int):=U
     have k3:(t:Int)<(n.kids.length:Int):=U
     have HBQ:=qaa hbq;have HDQ:=qaa hdq;clear hbq hdq hts hk hkb e2 e3;go_wp2
     go_region
     all_goals
      go_wp2;go_roundw
      case rel=>exact⟨t+1,U,by go_num,(HBQ.out.setCell (Nat.le_succ w.heap.size) _).drew,by simpa using hzq,by
       rw[HT.out];refine NAt.drew ((HDQ.out.put' (x:=max M D) (by first|omega|(split<;>omega))).congr (fun j _=>?_));unfold updN;by_cases e:j=i
       ·simp[e]
       ·simp[e]⟩
      case measure=>simp[intOf];omega
    ·have htk:t=n.kids.length:=U
     subst htk;rw[qbz] at hdq;have hd2:=hdq i hlt;have e2:updN (fun j=>if j<i then dpL ns j else 0) i (n.kids.foldl (fun m k=>max m ((depsL ns).getD k.toNat 0)) 0) i=n.kids.foldl (fun m k=>max m ((depsL ns).getD k.toNat 0)) 0:=if_pos rfl;rw[e2] at hd2;have hle:=zuj hK (i+1) i (qas _) hlt;have he:=HE.out;unfold maxK at he;generalize n.kids.foldl (fun m k=>max m ((depsL ns).getD k.toNat 0)) 0=M at *;have hM:(M:Int)+1<=1000001:=U
     have hM0:0<=(M:Int):=U
     obtain⟨c8,f8⟩:=hd2;have HBQ:=qaa hbq;have HDQ:=qaa hdq;have HE2:=qaa he;clear hbq hdq he hle e2 HE;go_wp2;refine⟨⟨i+1,U,by go_num,HBQ.out.setCell (Nat.le_succ w.heap.size) _,by simpa using hzq,?_⟩,by simp[intOf];omega⟩;refine(HDQ.out.put' (x:=M+1) U).congr (fun j _=>?_);unfold updN;by_cases e:j=i
     ·subst e;rw[if_pos rfl,if_pos (qas _),HE2.out]
     ·rw[if_neg e,if_neg e]
      by_cases e2:j<i
      ·simp[e2,Nat.lt_succ_of_lt e2]
      ·simp[e2,show ¬j<i+1 by omega]
  ·have hin:i=ns.length:=U
   subst hin;clear hnat hbw;go_wp2;go_ret;exact⟨⟨_,_,rfl,U,hzw,HD.out.congr (fun j hj=>if_pos hj)⟩,HW.out⟩
open Go.Maps
theorem zes (c p:Int)(w:World) :
  Calls qab 73 #[.int .i64 c,.int .i64 p] w fun ev w'=>ev=.returned (.iface 160 (.agg #[.int .i64 c,.int .i64 p]))/\w=w':=by
 go_enter Tryz.func73,Tryz.ntmps73;go_wp2;go_ret;exact⟨rfl,rfl⟩
theorem zc0 (r:ByteArray)(c p:Int)(w:World) :
  Calls qab 58 #[.string r,.iface 160 (.agg #[.int .i64 c,.int .i64 p])] w fun ev w'=>ev=.returned (.iface 149 (jj (some ⟨w.heap.size,0,none⟩)))/\w'=w.alloc (.cells #[.string r,.iface 160 (.agg #[.int .i64 c,.int .i64 p])] 151):=by
 go_enter Tryz.func58,Tryz.ntmps58;go_wp2;go_ret;exact⟨rfl,rfl⟩
def PartErr (part:ByteArray)(c p:Int)(w:World)(e:Ending)(w':World):Prop:=(∃b,e=.returned (.iface 149 (jj (some ⟨b,0,none⟩)))/\(Err.within b part (.fault c p)).In w')/\Below w.heap.size w w'
theorem PartErr.mk {part:ByteArray}{p:Int}(hn:n=W.heap.size)(hb:Below w.heap.size w W):PartErr part c p w (.returned (.iface 149 (jj (some ⟨n,0,none⟩)))) (W.alloc (.cells #[.string part,.iface 160 (.agg #[.int .i64 c,.int .i64 p])] 151)):=by
 subst hn;refine⟨⟨_,rfl,?_⟩,hb.alloc hb.size _⟩;refine⟨jc,by simp[Err.val],trivial⟩
theorem zr2 (ra na:Option Addr)(rn rc nn nc:Nat)(w:World)(hr:rn<=9223372036854775807)(hn:nn<=9223372036854775807) :
  Calls qab 62 #[.agg #[jf ra rn rc,jf na nn nc]] w fun e w'=>e=.returned (if 1000<rn∨10000<nn then .iface 60 (.int .i64 4) else .nilIface)/\Below w.heap.size w w':=by
 by_cases h1:1000<rn
 ·rw[if_pos (Or.inl h1)]
  have k1:(1000:Int)<(rn:Int):=U
  go_enter Tryz.func62,Tryz.ntmps62;go_wp2;go_ret;exact⟨rfl,zaa _ _⟩
 ·have k1:¬(1000:Int)<(rn:Int):=U
  by_cases h2:10000<nn
  ·rw[if_pos (Or.inr h2)]
   have k2:(10000:Int)<(nn:Int):=U
   go_enter Tryz.func62,Tryz.ntmps62;go_wp2;go_ret;exact⟨rfl,zaa _ _⟩
  ·rw[if_neg U]
   have k2:¬(10000:Int)<(nn:Int):=U
   go_enter Tryz.func62,Tryz.ntmps62;go_wp2;go_ret;exact⟨rfl,zaa _ _⟩
def zn5:ByteArray:=⟨#[114,117,108,101,115]⟩
def zk4:ByteArray:=⟨#[110,111,100,101,115]⟩
def FirstIs (o:Option Nat)(part:ByteArray)(c:Int)(w:World)(e:Ending)(w':World):Prop:=match o with
 |none=>e=.returned .nilIface/\Below w.heap.size w w'
 |some p=>PartErr part c (p:Int) w e w'
theorem FirstIs.nil {o:Option Nat}{part:ByteArray}(h:o=.none)(hb:Below w.heap.size w w'):FirstIs o part c w (.returned .nilIface) w':=by subst h;exact⟨rfl,hb⟩
theorem FirstIs.hit {o:Option Nat}{part:ByteArray}{p:Nat}(h:o=.some p)(hn:n=W.heap.size)(hb:Below w.heap.size w W):FirstIs o part c w (.returned (.iface 149 (jj (some ⟨n,0,none⟩)))) (W.alloc (.cells #[.string part,.iface 160 (.agg #[.int .i64 c,.int .i64 (p:Int)])] 151)):=by
 subst h;exact PartErr.mk hn hb
theorem zqa (ra:Option Addr)(rn rc:Nat)(nv:Value)(ns:List PN)(w:World)(hN:NodesAt w nv ns)(hs:ns.length<=1000000)(hK:zdo ns) :
  Calls qab 66 #[.agg #[jf ra rn rc,nv]] w (FirstIs (fbad (zb2 ns) ns.length 0) zk4 5 w):=by
 have HD:=qaa (fun(o:Obj)=>ztn ra rn rc nv ns (w.alloc o) (hN.kept (zaa w o) (qac _)) hs hK);have hdl:∀i,i<ns.length->dpL ns i<=1000001:=fun i hi=>by have:=zuj hK (i+1) i (qas _) hi;omega
 have HL:=qaa hdl;clear hdl;obtain⟨-,a,ca,rfl,-⟩:=hN;go_enter Tryz.func66,Tryz.ntmps66
 go_wp2_with (go_at_call 94;(with_reducible refine(HD.out _).mono ?_);rintro e w1 ⟨⟨B,cap,rfl,hB0,hB1,hnat⟩,hb⟩;have HN:=qaa hnat;have HW:=qaa ((zaa w _).trans (hb.mono (zaa w _).size));clear hb hnat)
 go_loop [8] (fun c=>∃k:Nat,k<=ns.length/\c=.int .i64 k/\fbad (zb2 ns) ns.length 0=fbad (zb2 ns) (ns.length-k) k) (fun c=>ns.length-(intOf c).toNat)
 case atStart=>exact⟨0,qaj _,rfl,rfl⟩
 case round=>
  obtain⟨k,hk,rfl,hf⟩:=hrel;have HF:=qaa hf;clear hf;by_cases hlt:k<ns.length
  ·obtain⟨c0,-⟩:=HN.out k hlt
   have hle:=HL.out k hlt;have k1:(k:Int)<(ns.length:Int):=U
   have hsub:ns.length-k=(ns.length-(k+1))+1:=U
   rw[hsub] at HF;clear hsub;by_cases hd:200<dpL ns k
   ·have hbad:zb2 ns k=true:=decide_eq_true hd
    have HR:=qaa (HF.out.trans (zbn hbad));have k2:(200:Int)<(dpL ns k:Int):=U
    clear hbad
    go_wp2_with (first
     |(go_at_call 73;(with_reducible refine(zes _ _ _).mono ?_);rintro e w2 ⟨rfl,rfl⟩)
     |(go_at_call 58;(with_reducible refine(zc0 _ _ _ _).mono ?_);rintro e w2 ⟨rfl,rfl⟩))
    go_ret;exact FirstIs.hit HR.out rfl HW.out
   ·have hbad:zb2 ns k=false:=decide_eq_false hd
    have HR:=qaa (HF.out.trans (zbz hbad));have k2:¬(200:Int)<(dpL ns k:Int):=U
    clear hbad;go_wp2
    go_round
    case rel=>exact⟨k+1,U,by go_num,HR.out⟩
    case measure=>simp[intOf];omega
  ·obtain rfl:k=ns.length:=U
   have k1:¬(ns.length:Int)<(ns.length:Int):=U
   have HR:Hid (fbad (zb2 ns) ns.length 0=none):=qaa (by rw[HF.out,qb8];rfl);go_wp2;go_ret;exact FirstIs.nil HR.out HW.out
def SeenAt (w:World)(b n:Nat)(seen:ByteArray->Bool):Prop:=∃D:DataW Unit,w.ownsMap qab 9 (plainElem qab 4) b n D/\Maps.IsMap D/\∀s:ByteArray,D.atKey (.string s.data.toList) (.lit (.bool false))=.lit (.bool (seen s))
theorem zl9:Keyed qab 9:=string_keyed qba
theorem zxc (w:World):(zeroValue 4).run qab w=.ok (.bool false) w:=jb
theorem zgt {v:Value}{z:DataW Unit × List MemPlace}(h:plainElem qab 4 v=some z):∃x,v=.bool x/\z=(.lit (.bool x),[]):=by
 unfold plainElem at h;rw[qdw] at h;cases v<;>simp at h
 exact⟨_,rfl,h.symm⟩
theorem SeenAt.made (w:World):SeenAt (w.alloc (.map #[] 0)) w.heap.size 0 (fun _=>false):=
 ⟨.map [],World.ownsMap_made _ _ _ _,Maps.isMap_empty,fun _=>rfl⟩
theorem SeenAt.alloc {seen:ByteArray->Bool}(h:SeenAt w b n seen)(o:Obj):SeenAt (w.alloc o) b n seen:=by
 obtain⟨D,h1,h2,h3⟩:=h;exact⟨D,h1.alloc o,h2,h3⟩
theorem SeenAt.look {seen:ByteArray->Bool}(h:SeenAt w b n seen)(s:ByteArray)(hs:s.size<=maxLen):(Instr.lookup 153 (.map (some b)) (.string s) false).run qab w=.ok (.bool (seen s)) w:=by
 obtain⟨D,h1,h2,h3⟩:=h;obtain⟨v,ps,hrun,hv⟩:=h1.lookup zl9 Tryz.underlying153 (zxc w) (plainElem_bool qdw false) (qej qba hs);obtain⟨x,rfl,hx⟩:=zgt hv;rw[h3 s] at hx;injection hx with h4 h5;injection h4 with h6;injection h6 with h7;rw[hrun,h7]
theorem SeenAt.put {D:DataW Unit}{seen seen':ByteArray->Bool}(s:ByteArray)(h1:w.ownsMap qab 9 (plainElem qab 4) b n (D.put (.string s.data.toList) (.lit (.bool true))))(h2:Maps.IsMap D)(h3:∀s:ByteArray,D.atKey (.string s.data.toList) (.lit (.bool false))=.lit (.bool (seen s)))
  (h:∀x,seen' x=(seen x || decide (s=x))):SeenAt w b n seen':=by
 refine⟨_,h1,h2.put _ _,fun x=>?_⟩;rw[h x];by_cases e:s=x
 ·subst e
  rw[Maps.atKey_put_same h2 (show WideAt.IsKeyLit (.string _) from trivial)];simp
 ·rw[Maps.atKey_put_other (by intro he;injection he with he;exact e (ByteArray.ext (Array.ext' he)).symm),h3 x,decide_eq_false e,Bool.or_false]
def seenL (rs:List PR)(k:Nat)(s:ByteArray):Bool:=(rs.take k).any (fun x=>decide (x.name=s))
theorem zk5 {rs:List PR}{r:PR}(h:rs[k]?=some r)(s:ByteArray):seenL rs (k+1) s=(seenL rs k s || decide (r.name=s)):=by
 unfold seenL;rw[za3 rs k r h,List.any_append];simp
theorem zk6 {rs:List PR}{r:PR}(h:rs[k]?=some r):zbp rs k=(seenL rs k r.name || !nameB (bts r.name)):=by
 unfold zbp;rw[h];rfl
theorem zto (ra na:Option Addr)(rc nn nc:Nat)(w:World) :
  Calls qab 63 #[.agg #[jf ra 0 rc,jf na nn nc]] w (PartErr zn5 10 0 w):=by
 have HB:=qaa (zaa w);go_enter Tryz.func63,Tryz.ntmps63
 go_wp2_with (first
  |(go_at_call 73;(with_reducible refine(zes _ _ _).mono ?_);rintro e w2 ⟨rfl,rfl⟩)
  |(go_at_call 58;(with_reducible refine(zc0 _ _ _ _).mono ?_);rintro e w2 ⟨rfl,rfl⟩))
 go_ret;exact PartErr.mk jc (HB.out _)
theorem ztp (rv:Value)(na:Option Addr)(nn nc:Nat)(rs:List PR)(w:World)(hR:RulesIn w rv rs)(h0:0<rs.length)(hs:rs.length<=1000000)(hnm:∀r,r ∈ rs->r.name.size<=2000000) :
  Calls qab 63 #[.agg #[rv,jf na nn nc]] w (FirstIs (fbad (zbp rs) rs.length 0) zn5 10 w):=by
 have HM:=qaa hnm;have HB0:=qaa (zbo w);have HS0:Hid (∀o,SeenAt ((w.alloc o).alloc (.map #[] 0)) (w.heap.size+1) 0 (seenL rs 0)):=qaa fun o=>by
  have:=SeenAt.made (w.alloc o);rw[qbl] at this;exact this
 obtain⟨-,a,ca,rfl,ha⟩:=hR;have q0:((rs.length:Int) == 0)=false:=zae U;have hmm:=@run_makeMap qab;clear hnm;rcases ha with h1|⟨rb,ro,rfl,hca⟩
 ·rw[h1] at h0;exact absurd h0 (qa3 _)
 go_enter Tryz.func63,Tryz.ntmps63;go_wp2
 go_loopw [16] (fun c wr=>∃k:Nat,k<=rs.length/\c=.int .i64 k/\Below w.heap.size w wr/\SeenAt wr (w.heap.size+1) k (seenL rs k)/\fbad (zbp rs) rs.length 0=fbad (zbp rs) (rs.length-k) k) (fun c _=>rs.length-(intOf c).toNat)
 case atStart=>exact⟨0,qaj _,rfl,HB0.out _ _,HS0.out _,rfl⟩
 case round=>
  obtain⟨k,hk,rfl,hbw,hse,hf⟩:=hrel;have HF:=qaa hf;clear hf;by_cases hlt:k<rs.length
  ·obtain⟨r,hr⟩:∃r,rs[k]?=some r:=⟨_,qae hlt⟩
   obtain⟨c0,c1⟩:=(hca k r hr).kept hbw (qac _);have lb:=zai c0;have k1:(k:Int)<(rs.length:Int):=U
   have hsub:rs.length-k=(rs.length-(k+1))+1:=U
   rw[hsub] at HF;have hnb:=zk6 hr;have hss:=zk5 hr;have hsz:=HM.out r (qan hr);have hlk:∀o,(Instr.lookup 153 (.map (some (w.heap.size+1))) (.string r.name) false).run qab (wr.alloc o)=.ok (.bool (seenL rs k r.name)) (wr.alloc o):=fun o=>(hse.alloc o).look r.name (by unfold maxLen;omega)
   have HP:=qaa (fun w=>zux r.name w hsz);have HW:=qaa hbw;have HSE:=qaa hse;have hszw:=hbw.size;have HSS:=qaa hss;clear hsub hca hr hbw hse hss;cases hsn:seenL rs k r.name with
   |true=>
    rw[hsn] at hlk hnb;have HR:=qaa (HF.out.trans (zbn hnb));clear hnb hsn
    go_wp2_with (first
     |(go_at_call 73;(with_reducible refine(zes _ _ _).mono ?_);rintro e w2 ⟨rfl,rfl⟩)
     |(go_at_call 58;(with_reducible refine(zc0 _ _ _ _).mono ?_);rintro e w2 ⟨rfl,rfl⟩))
    go_ret;exact FirstIs.hit HR.out jc (HW.out.alloc hszw _)
   |false=>
    rw[hsn,Bool.false_or] at hnb;rw[hsn] at hlk;cases hnm:nameB (bts r.name) with
    |false=>
     rw[hnm] at hnb HP;have HR:=qaa (HF.out.trans (zbn hnb));clear hnb hsn hnm
     go_wp2_with (first
      |(go_at_call 91;(with_reducible refine(HP.out _).mono ?_);rintro e w2 ⟨rfl,hw⟩;obtain rfl:=hw.symm;clear hw)
      |(go_at_call 73;(with_reducible refine(zes _ _ _).mono ?_);rintro e w2 ⟨rfl,rfl⟩)
      |(go_at_call 58;(with_reducible refine(zc0 _ _ _ _).mono ?_);rintro e w2 ⟨rfl,rfl⟩))
     go_ret;exact FirstIs.hit HR.out jc (HW.out.alloc hszw _)
    |true=>
     rw[hnm] at hnb HP;have HR:=qaa (HF.out.trans (zbz hnb));obtain⟨D,hown,hmap,hat⟩:=HSE.out;have hkey:=qej (P:=qab) qba (s:=r.name) (by unfold maxLen;omega);have HAT:=qaa hat;have HKEY:=qaa hkey;have HMAP:=qaa hmap;clear hnb hsn hnm hat hkey hmap
     go_wp2_with (first
      |(go_at_call 91;(with_reducible refine(HP.out _).mono ?_);rintro e w2 ⟨rfl,hw⟩;obtain rfl:=hw.symm;clear hw)
      |(at_mapUpdate;refine wpList_mapUpdate_own _ rfl _ _ _ 153 rfl 9 4 zl9 Tryz.underlying153 _ (w.heap.size+1) k D rfl (hown.alloc _) (by unfold maxLen;omega) _ _ _ rfl rfl HKEY.out _ [] (plainElem_bool qdw true) ?_;intro w1 hown1 hgrow1))
     go_roundw
     case rel=>exact⟨k+1,U,by go_num,(HW.out.alloc hszw _).grown hgrow1 (by simp;omega) (fun j e=>by injection e with e;omega),SeenAt.put r.name hown1 HMAP.out HAT.out HSS.out,HR.out⟩
     case measure=>simp[intOf];omega
  ·obtain rfl:k=rs.length:=U
   have k1:¬(rs.length:Int)<(rs.length:Int):=U
   have HR:Hid (fbad (zbp rs) rs.length 0=none):=qaa (by rw[HF.out,qb8];rfl);have HW:=qaa hbw;clear hbw hse;go_wp2;go_ret;exact FirstIs.nil HR.out HW.out
theorem zjk:∀(ks st st':List Int),popL ks st=some st'->st=ks++st'
 | [],st,st',h=>by cases h;rfl
 |k::ks,[],st',h=>by cases h
 |k::ks,x::st,st',h=>by
  have hd:popL (k::ks) (x::st)=if k=x then popL ks st else none:=rfl
  by_cases e:k=x
  ·rw[hd,if_pos e] at h;rw[e,zjk ks st st' h];rfl
  ·rw[hd,if_neg e] at h;cases h
theorem zr3:∀(ks st':List Int),popL ks (ks++st')=some st'
 | [],_=>rfl
 |k::ks,st'=>by
  show(if k=k then popL ks (ks++st') else none)=_;rw[if_pos rfl,zr3 ks st']
theorem zn6 (l m:List Int):intsV (l++m)=intsV l++intsV m:=by unfold intsV;rw[List.map_append]
theorem ztq (l:List Int)(k:Nat):intsV (l.take k)=(intsV l).take k:=by unfold intsV;rw[List.map_take]
theorem zjl {e:TypeId}{xs:List Value}(h:w.ownsRow base e 1 (jf a n cap) n xs)(hk:k<=n):w.ownsRow base e 1 (jf a k cap) k (xs.take k):=by
 obtain⟨h1,h2⟩:=h;rcases h2 with⟨h0,h3⟩|⟨g',cap',cur,hv,hg,hh,hn,hcap,hsz,htake⟩
 ·injection h0 with e1 e2 e3
  subst e1 e2 e3;obtain rfl:k=0:=U
  exact⟨jc,.inl ⟨rfl,rfl⟩⟩
 ·injection hv with e1 e2 e3
  subst e1 e3;refine⟨by rw[List.length_take];omega,.inr ⟨g',cap,cur,rfl,hg,hh,U,hcap,hsz,?_⟩⟩;rw[<-htake,List.take_take,Nat.mul_one,Nat.mul_one,Nat.min_eq_left hk]
theorem zfs {e:TypeId}{v:Value}{xs:List Value}(h:w.ownsRow base e 1 v n xs):∃a cap,v=jf a n cap/\n<=cap/\(n=0∨∃g,a=some ⟨g,0,none⟩)/\(a=none∨∃g,a=some ⟨g,0,none⟩):=by
 obtain⟨h1,h2⟩:=h;rcases h2 with⟨h0,h3⟩|⟨g',cap',cur,hv,hg,hh,hn,hcap,hsz,htake⟩
 ·subst h3;exact⟨none,0,h0,qac _,.inl rfl,.inl rfl⟩
 ·exact⟨_,cap',hv,hn,.inr ⟨g',rfl⟩,.inr ⟨g',rfl⟩⟩
theorem z0r {a':Option Addr}{f c:Nat}(h:w.ownsRow base 3 1 (jf a n cap) n (intsV l))(hn:l.length=n)(hf:n=f+k)(ha:k=0∨∃g,a=some ⟨g,0,none⟩/\a'=some ⟨g,f,none⟩):IntsAt w (jf a' k c) (l.drop f):=by
 have hl:(l.drop f).length=k:=by rw[qa2];omega
 refine⟨a',c,by rw[hl],?_⟩;rcases ha with h0|⟨g,rfl,rfl⟩
 ·left;exact List.length_eq_zero_iff.1 U
 ·right
  refine⟨g,f,rfl,fun i x hx=>?_⟩;rw[List.getElem?_drop] at hx;have:=h.cells rfl (f+i) (.int .i64 x) (by unfold intsV;rw[List.getElem?_map,hx];rfl);rw[Addr.add_lit,Nat.zero_add] at this;exact this
theorem zma (w:World):(sizeOf (qab.elem 52)).run qab w=.ok 1 w:=jb
theorem zmb:qab.underlying 52=some (.slice (qab.elem 52)):=jb
theorem zxd (a:Option Addr)(n cap k:Nat)(hk:k<=cap)(ha:a=none∨∃g,a=some ⟨g,0,none⟩)(w:World):(Instr.slice 52 (jf a n cap) none (some (.int .i64 (k:Int))) none).run qab w=.ok (jf a k cap) w:=by
 rw[run_slice_h w 52 a n cap zmb .i64 (k:Int) U U,zma,qcl];unfold sliced;rcases ha with rfl|⟨g,rfl⟩
 ·simp
 ·simp[Addr.add]
theorem z0s (a:Option Addr)(n cap f k:Nat)(hn:n=f+k)(hk:n<=cap)(ha:k=0∨∃g,a=some ⟨g,0,none⟩):∃a',(∀w,(Instr.slice 52 (jf a n cap) (some (.int .i64 (f:Int))) (some (.int .i64 (n:Int))) (some (.int .i64 (n:Int)))).run qab w=.ok (jf a' k k) w)/\(k=0∨∃g,a=some ⟨g,0,none⟩/\a'=some ⟨g,f,none⟩):=by
 rcases Nat.eq_zero_or_pos k with h0|h0
 ·refine⟨a,fun w=>?_,.inl h0⟩
  rw[run_slice_lhm w 52 a n cap zmb .i64 .i64 .i64 (f:Int) (n:Int) (n:Int) U U U U,zma,qcl];unfold sliced;subst h0;rw[if_pos U,show(n:Int).toNat-(f:Int).toNat=0 by omega]
 ·rcases ha with h|⟨g,rfl⟩
  ·omega
  ·refine⟨some ⟨g,f,none⟩,fun w=>?_,.inr ⟨g,rfl,rfl⟩⟩
   rw[run_slice_lhm w 52 _ n cap zmb .i64 .i64 .i64 (f:Int) (n:Int) (n:Int) U U U U,zma,qcl];unfold sliced;rw[if_neg U,show(n:Int).toNat-(f:Int).toNat=k by omega];simp[Addr.add];intro h;exact h.symm
def OrdIs (b:Bool)(w:World)(e:Ending)(w':World):Prop:=e=.returned (if b then .nilIface else .iface 60 (.int .i64 10))/\Below w.heap.size w w'
theorem OrdIs.yes {b:Bool}(h:b=true)(hb:Below w.heap.size w w'):OrdIs b w (.returned .nilIface) w':=by subst h;exact⟨rfl,hb⟩
theorem OrdIs.no {b:Bool}(h:b=false)(hb:Below w.heap.size w w'):OrdIs b w (.returned (.iface 60 (.int .i64 10))) w':=by subst h;exact⟨rfl,hb⟩
theorem ztr (rv nv:Value)(rs:List PR)(ns:List PN)(w:World)(hR:RulesIn w rv rs)(hN:NodesAt w nv ns)(hs:ns.length<=1000000)(hsr:rs.length<=1000000) :
  Calls qab 65 #[.agg #[rv,nv]] w (OrdIs (runO rs ns 0 [] 0) w):=by
 obtain⟨i0,hi0,hz0,hz1,hz2⟩:=info_parts zd1;obtain⟨-,ra,rc,rfl,hra⟩:=hR;obtain⟨-,na,nc,rfl,hna⟩:=hN;have HO:=qaa (zaa w);go_enter Tryz.func65,Tryz.ntmps65;go_wp2
 go_loopw [3,4,11] (fun vs vr vc wr=>∃(i r:Nat) (st:List Int),i<=ns.length/\r<=rs.length/\vc=.int .i64 i/\vr=.int .i64 r/\st.length<=i/\runO rs ns 0 [] 0=runO rs (ns.drop i) i st r/\wr.ownsRow (w.heap.size+1) 3 1 vs st.length (intsV st.reverse)/\Below w.heap.size w wr/\w.heap.size<wr.heap.size/\wr.cell? ⟨w.heap.size,0,none⟩=some (jf ra rs.length rc)/\wr.cell? ⟨w.heap.size,1,none⟩=some (jf na ns.length nc)) (fun _ _ vc _=>ns.length-(intOf vc).toNat)
 case atStart=>exact⟨0,0,[],qaj _,qaj _,rfl,rfl,qac _,rfl,World.ownsRow_nil _ _ _ _,HO.out _,jc,jc,jc⟩
 case round=>
  obtain⟨i,r,st,hi,hr,rfl,rfl,hst,ho,how,hbw,hsw,b0,b1⟩:=hrel;have HRO:=qaa ho;clear ho;obtain⟨a,cap,rfl,hcap,ha1,ha2⟩:=zfs how;have HW:=qaa hbw;have hszw:=hbw.size;by_cases hlt:i<ns.length
  ·obtain⟨n,hn⟩:∃n,ns[i]?=some n:=⟨_,qae hlt⟩
   have hdr:ns.drop i=n::ns.drop (i+1):=by
    obtain⟨h1,h2⟩:=qag.1 hn;rw[qbr h1,h2]
   rw[hdr] at HRO;rcases hna with h0|⟨nb,no,rfl,hca⟩
   ·rw[h0] at hlt;exact absurd hlt (qa3 _)
   obtain⟨kv,c0,c1,c2,c3,c4,c5,c6,ci,cl⟩:=(hca i n hn).kept hbw (qac _);have CI:=qaa ci;obtain⟨ka,kc,rfl,-⟩:=ci;have lb:=zai c0;have k1:(i:Int)<(ns.length:Int):=U
   unfold maxLen at cl;have HOW:=qaa how;clear hdr hca hn hbw how;by_cases hkl:n.kids.length<=st.length
   ·obtain⟨f,hf⟩:∃f,st.length=f+n.kids.length:=⟨st.length-n.kids.length,U⟩
    obtain⟨a',hta,haa⟩:=z0s a st.length cap f n.kids.length hf hcap (ha1.imp (fun h=>U) id);have hcut:=zxd a st.length cap f U ha2;have df:decide ((f:Int)<0)=false:=decide_eq_false U;have ef:(st.length:Int)-(n.kids.length:Int)=(f:Int):=U
    have hq:=fun(o:Obj) (q:Nat)=>zta (jf a' n.kids.length n.kids.length) (jf ka n.kids.length kc) (st.reverse.drop f) n.kids ((wr.alloc o).drewN q) (by rw[qa2,qcv];unfold maxLen;omega) (z0r (HOW.out.alloc o) (by rw[qcv]) hf haa) (CI.out.kept (zak (zaa wr o)) (qac _))
    have HQ:=qaa hq;have HF:=qaa hf;clear hq haa hf;cases hp:popL n.kids.reverse st with
    |none=>
     have HD:Hid (decide (st.reverse.drop f=n.kids)=false):=decN (fun e=>by
      have h1:=List.take_append_drop f st.reverse;rw[e] at h1;have h2:=congrArg List.reverse h1;rw[List.reverse_append,List.reverse_reverse] at h2;rw[<-h2,zr3] at hp;cases hp)
     rw[HD.out] at HQ;have HR:Hid (runO rs ns 0 [] 0=false):=qaa (by rw[HRO.out,zey (zg4 hp)]);clear hp;go_wp2;go_quiet ((go_at_call 93;exact Calls.quiet_of (HQ.out _ _)));go_wp2;go_ret;exact OrdIs.no HR.out (zak (HW.out.alloc hszw _))
    |some st'=>
     have hst2:=zjk _ _ _ hp;have hf2:st'.length=f:=by
      have h1:=congrArg List.length hst2;rw[qad,qcv,HF.out] at h1;omega
     have hrv:st.reverse=st'.reverse++n.kids:=by rw[hst2,List.reverse_append,List.reverse_reverse]
     have HD:Hid (decide (st.reverse.drop f=n.kids)=true):=decY (by
      rw[hrv,List.drop_append_of_le_length (by rw[qcv];omega),List.drop_of_length_le (by rw[qcv];omega)];rfl)
     rw[HD.out] at HQ;have HC:Hid (wr.ownsRow (w.heap.size+1) 3 1 (jf a f cap) f (intsV st'.reverse)):=qaa (by
      have h1:=zjl (k:=f) HOW.out (by have:=HF.out;omega);rw[<-ztq,hrv,List.take_append_of_le_length (by rw[qcv];omega),List.take_of_length_le (by rw[qcv];omega)] at h1;exact h1)
     have HP:=qaa hp;have HF2:=qaa hf2;have hfi:f<=i:=U
     clear hp hst2 hrv hf2;go_wp2;go_quiet ((go_at_call 93;exact Calls.quiet_of (HQ.out _ _)));obtain⟨W2,hW2⟩:∃W2,((wr.alloc (.cells #[.int .i64 n.op,jf ka n.kids.length kc,.int .i64 n.rule,.int .u64 n.s0,.int .u64 n.s1,.int .u64 n.s2,.int .u64 n.s3] 54)).drewN nq)=W2:=⟨_,rfl⟩;have hb2:Below wr.heap.size wr W2:=by rw[<-hW2];exact zak (zaa wr _)
     rw[hW2];have HC2:=qaa (zab HC.out hb2);have HW2:=qaa (HW.out.trans (hb2.mono hszw));have b0':=(bcell hb2).1 _ 0 hsw;have b1':=(bcell hb2).1 _ 1 hsw;rw[b0] at b0';rw[b1] at b1';have hsw2:=qaz hsw hb2.size;clear hW2 hb2 b0 b1 c0 c1 c2 c3 c4 c5 c6 hta
     go_upto_region 10 with(at_builtin;refine wpList_append_own _ rfl _ _ 52 rfl (w.heap.size+1) 3 i0 (.int .i64 0) 1 8 qcb hi0 hz0 hz1 hz2 rfl ja _ _ _ rfl (HC2.out.alloc _) ⟨W2.heap.size,0,none⟩ 1 1 [.int .i64 (i:Int)] rfl rfl (zat W2 _ _) (ints_oneCell .i64 [(i:Int)]) (by unfold maxLen;omega) U (by simp;omega) ?_;intro v' w1 hown' hgrow _)
     have hne:some w.heap.size≠(Value.slice a f cap).ownBlock:=fun e=>by have:=(HC2.out.lt _ e.symm).1;omega
     have hbw1:Below w.heap.size w w1:=(HW2.out.alloc (Nat.le_of_lt hsw2) _).grown hgrow (by simp;omega) (fun k e=>by have:=(HC2.out.lt _ e).1;omega);have b0w:w1.cell? ⟨w.heap.size,0,none⟩=some (jf ra rs.length rc):=hgrow.cell (a:=⟨w.heap.size,0,none⟩) (by rw[((bcell (zaa W2 _)).1 _ 0 hsw2)];exact b0') hne;have b1w:w1.cell? ⟨w.heap.size,1,none⟩=some (jf (some ⟨nb,no,none⟩) ns.length nc):=hgrow.cell (a:=⟨w.heap.size,1,none⟩) (by rw[((bcell (zaa W2 _)).1 _ 1 hsw2)];exact b1') hne;have hsw1:w.heap.size<w1.heap.size:=qaz (by simp;omega) hgrow.size;have hrv2:intsV st'.reverse++[.int .i64 (i:Int)]=intsV ((i:Int)::st').reverse:=by rw[List.reverse_cons,zn6];rfl
     rw[hrv2] at hown';have HOW1:=qaa hown';have HW1:=qaa hbw1;obtain⟨a2,cap2,rfl,hcap2,ha3,ha4⟩:=zfs hown';clear hcut hne hbw1 b0' b1' hrv2 hown' hgrow HC2 HW2 HC HOW hcap ha1 ha2;cases hrx:rs[r]? with
     |none=>
      have hrl:r=rs.length:=by
       have:=List.getElem?_eq_none_iff.1 hrx;omega
      have HS:=qaa (zd7 (ns:=ns.drop (i+1)) (zmu (i:=(i:Int)) HP.out hrx));have k2:¬(r:Int)<(rs.length:Int):=U
      clear hrx;go_wp2;go_roundw
      case rel=>exact⟨i+1,r,(i:Int)::st',U,hr,by go_num,rfl,by have:=HF2.out;simp;omega,by rw[HRO.out,HS.out];rfl,by rw[qah,HF2.out];exact HOW1.out,HW1.out,hsw1,b0w,b1w⟩
      case measure=>simp[intOf];omega
     |some x=>
      have hrl:=(qag.1 hrx).1;rcases hra with h0|⟨rb,ro,rfl,hca⟩
      ·rw[h0] at hrl;exact absurd hrl (qa3 _)
      obtain⟨d0,d1⟩:=(hca r x hrx).kept HW1.out (qac _);have k2:(r:Int)<(rs.length:Int):=U
      by_cases hxi:x.root=i
      ·have q1:(x.root == (i:Int))=true:=by rw[hxi];simp
       cases st' with
       |nil=>
        have hf0:f=0:=HF2.out.symm;subst hf0;have HS:=qaa (zd7 (ns:=ns.drop (i+1)) (zj8 HP.out hrx hxi));have hcut0:=zxd a2 (0+1) cap2 0 (qaj _) ha4;have HOW0:=qaa (zjl (k:=0) HOW1.out (qaj _));clear hrx hxi hca d0;go_wp2;go_roundw
        case rel=>exact⟨i+1,r+1,[],U,U,by go_num,by go_num,qaj _,by rw[HRO.out,HS.out];rfl,HOW0.out,HW1.out,hsw1,b0w,b1w⟩
        case measure=>simp[intOf];omega
       |cons y st''=>
        have hf1:1<=f:=by have:=HF2.out;simp at this;omega
        have HS:=qaa (zey (ns:=ns.drop (i+1)) (zj9 HP.out hrx hxi));have HFN:Hid (runO rs ns 0 [] 0=false):=qaa (by rw[HRO.out,HS.out]);have k3:(1:Int)<((f+1:Nat):Int):=U
        have k4:1<f+1:=U
        have k5:0<f:=U
        clear hrx hxi hca d0;go_wp2;go_ret;exact OrdIs.no HFN.out HW1.out
      ·have q1:(x.root == (i:Int))=false:=zae hxi
       have HS:=qaa (zd7 (ns:=ns.drop (i+1)) (zqq HP.out hrx hxi));clear hrx hxi hca d0;go_wp2;go_roundw
       case rel=>exact⟨i+1,r,(i:Int)::st',U,hr,by go_num,rfl,by have:=HF2.out;simp;omega,by rw[HRO.out,HS.out];rfl,by rw[qah,HF2.out];exact HOW1.out,HW1.out,hsw1,b0w,b1w⟩
       case measure=>simp[intOf];omega
   ·have hp:popL n.kids.reverse st=none:=by
     cases hp:popL n.kids.reverse st with
     |none=>rfl
     |some st'=>
      have h1:=congrArg List.length (zjk _ _ _ hp);rw[qad,qcv] at h1;omega
    have HR:Hid (runO rs ns 0 [] 0=false):=qaa (by rw[HRO.out,zey (zg4 hp)]);obtain⟨z,hz⟩:∃z:Int,(st.length:Int)-(n.kids.length:Int)=z:=⟨_,rfl⟩;have df:decide (z<0)=true:=decide_eq_true U;clear hp;go_wp2;go_quiet (fail);go_wp2;go_ret;exact OrdIs.no HR.out (zak (HW.out.alloc hszw _))
  ·obtain rfl:i=ns.length:=U
   have k1:¬(ns.length:Int)<(ns.length:Int):=U
   have HE:Hid (runO rs ns 0 [] 0=(st.isEmpty&&decide (rs.length<=r))):=qaa (by rw[HRO.out,List.drop_length];rfl);clear how hbw;cases st with
   |nil=>
    by_cases hrl:r<rs.length
    ·have k2:(r:Int)<(rs.length:Int):=U
     have HF:Hid (runO rs ns 0 [] 0=false):=qaa (by rw[HE.out,decide_eq_false U];rfl);go_wp2;go_ret;exact OrdIs.no HF.out HW.out
    ·have k2:¬(r:Int)<(rs.length:Int):=U
     have HF:Hid (runO rs ns 0 [] 0=true):=qaa (by rw[HE.out,decide_eq_true U];rfl);go_wp2;go_ret;exact OrdIs.yes HF.out HW.out
   |cons x st=>
    have HF:Hid (runO rs ns 0 [] 0=false):=qaa (by rw[HE.out];rfl);obtain⟨m,hm⟩:∃m,(x::st).length=m:=⟨_,rfl⟩;have k2:(0:Int)<(m:Int):=by rw[<-hm];simp
    have k3:0<m:=U
    rw[hm] at *;clear hm;go_wp2;go_ret;exact OrdIs.no HF.out HW.out
