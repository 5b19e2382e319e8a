/- gram.First on a grammar in post-order. cmp.Compare at int, slices.BinarySearchFunc on rules, gram.Owner on rising roots. The reference's Few and Owner. The refe -/
import Derived.Deep.RegionHeld3
import Derived.IntWalk
import Derived.RegionTactic
import Derived.Deep.OwnRows
import Derived.ChangeAlike
import Derived.Maps.OwnOps
import Derived.Maps.OwnSet
import Derived.Laws.OwnMore
import Derived.Deep.Cut
import Derived.Lib.SmallJoins
import Derived.Test.YthhppmehhdlmnaaGreatDoorPzLexStr
import Derived.Test.YthhppmehhdlmnaaGreatDoorPzD
import Derived.Test.YthhppmehhdlmnaaGreatDoorPzJ
set_option maxRecDepth 100000
set_option maxHeartbeats 8000000
namespace Go.Proofs.YthhppmehhdlmnaaGreatDoor
open Go.RowKit
def FoundIs (n:Nat)(w:World)(e:Ending)(w':World):Prop:=(∃b,e=.returned (.tuple #[.int .i64 (n:Int),.bool b]))/\Below w.heap.size w w'
theorem FoundIs.mk {n:Nat}{x:Int}{b:Bool}{w w':World}(hx:x=n)(hb:Below w.heap.size w w'):FoundIs n w (.returned (.tuple #[.int .i64 x,.bool b])) w':=by subst hx;exact⟨⟨b,rfl⟩,hb⟩
def fewB (rs:List PR)(ns:List PN):Bool:=rs.all (fun r=>decide (r.name.size<=100))&&(ns.all (fun n=>decide (n.kids.length<=60))&&(decide (rs.length<=30)&&decide (ns.length<=300)))
theorem zfy {rs:List PR}{ns:List PN}(h:fewB rs ns=true):(∀r,r ∈ rs->r.name.size<=100)/\(∀n,n ∈ ns->n.kids.length<=60)/\rs.length<=30/\ns.length<=300:=by
 unfold fewB at h;simp only[Bool.and_eq_true,List.all_eq_true,decide_eq_true_eq] at h;exact h
theorem zvl {rs:List PR}{ns:List PN}{k:Nat}{r:PR}(h:rs[k]?=some r)(h2:100<r.name.size):fewB rs ns=false:=by
 cases hf:fewB rs ns with
 |false=>rfl
 |true=>have:=(zfy hf).1 r (List.mem_of_getElem? h);omega
theorem zvm {rs:List PR}{ns:List PN}{k:Nat}{n:PN}(h:ns[k]?=some n)(h2:60<n.kids.length):fewB rs ns=false:=by
 cases hf:fewB rs ns with
 |false=>rfl
 |true=>have:=(zfy hf).2.1 n (List.mem_of_getElem? h);omega
theorem z43 {rs:List PR}{ns:List PN}(h1:∀(j:Nat) r,j<rs.length->rs[j]?=some r->r.name.size<=100)(h2:∀(j:Nat) n,j<ns.length->ns[j]?=some n->n.kids.length<=60):fewB rs ns=(decide (rs.length<=30)&&decide (ns.length<=300)):=by
 have e1:rs.all (fun r=>decide (r.name.size<=100))=true:=by
  rw[List.all_eq_true];intro r hr;obtain⟨j,hj⟩:=List.getElem?_of_mem hr;exact decide_eq_true (h1 j r (List.getElem?_eq_some_iff.1 hj).1 hj)
 have e2:ns.all (fun n=>decide (n.kids.length<=60))=true:=by
  rw[List.all_eq_true];intro r hr;obtain⟨j,hj⟩:=List.getElem?_of_mem hr;exact decide_eq_true (h2 j r (List.getElem?_eq_some_iff.1 hj).1 hj)
 unfold fewB;rw[e1,e2,Bool.true_and,Bool.true_and]
theorem z45 (rv nv:Value)(rs:List PR)(ns:List PN)(w:World)(hR:RulesIn w rv rs)(hN:NodesAt w nv ns) :
  Calls Tryz.prog 29 #[.agg #[rv,nv]] w fun e w'=>e=.returned (.bool (fewB rs ns))/\Below w.heap.size w w':=by
 obtain⟨hlr,ra,rc,rfl,hra⟩:=hR;obtain⟨hln,na,nc,rfl,hna⟩:=hN;unfold maxLen at hlr hln;have hB:=zab w;have HB:=Lib.hid hB;clear hB;go_enter Tryz.func29,Tryz.ntmps29;go_wp2
 go_loop [3] (fun c=>∃k:Nat,k<=rs.length/\c=.int .i64 k/\∀(j:Nat) r,j<k->rs[j]?=some r->r.name.size<=100) (fun c=>rs.length-(intOf c).toNat)
 case atStart=>exact⟨0,Nat.zero_le _,rfl,fun j r h=>absurd h (Nat.not_lt_zero _)⟩
 case round=>
  obtain⟨k,hk,rfl,hall⟩:=hrel;have HA:=Lib.hid hall;clear hall;by_cases hlt:k<rs.length
  ·obtain⟨r,hr⟩:∃r,rs[k]?=some r:=⟨_,List.getElem?_eq_getElem hlt⟩
   rcases hra with h0|⟨rb,ro,rfl,hca⟩
   ·rw[h0] at hlt;exact absurd hlt (Nat.not_lt_zero _)
   obtain⟨c0,-⟩:=hca k r hr;have lb:=zac c0;have k1:(k:Int)<(rs.length:Int):=by omega
   have HR:=Lib.hid hr;clear hca hr hna;by_cases hx:100<r.name.size
   ·have k2:(100:Int)<(r.name.size:Int):=by omega
    go_wp2;go_ret;exact⟨zaf (zvl HR.out hx).symm,HB.out _⟩
   ·have k2:¬(100:Int)<(r.name.size:Int):=by omega
    go_wp2
    go_round
    case rel=>exact⟨k+1,by omega,by go_num,fun j x hj hx2=>by
     by_cases e:j=k
     ·subst e
      have:=HR.out;rw[hx2] at this;obtain rfl:=Option.some.inj this;omega
     ·exact HA.out j x (by omega) hx2⟩
    case measure=>simp[intOf];omega
  ·obtain rfl:k=rs.length:=by omega
   have k1:¬(rs.length:Int)<(rs.length:Int):=by omega
   clear hra;go_wp2
   go_loop [4] (fun c=>∃k:Nat,k<=ns.length/\c=.int .i64 k/\∀(j:Nat) n,j<k->ns[j]?=some n->n.kids.length<=60) (fun c=>ns.length-(intOf c).toNat)
   case atStart=>exact⟨0,Nat.zero_le _,rfl,fun j r h=>absurd h (Nat.not_lt_zero _)⟩
   case round=>
    obtain⟨k,hk,rfl,hall⟩:=hrel;have HA2:=Lib.hid hall;clear hall;by_cases hlt2:k<ns.length
    ·obtain⟨n,hn⟩:∃r,ns[k]?=some r:=⟨_,List.getElem?_eq_getElem hlt2⟩
     rcases hna with h0|⟨nb,no,rfl,hca⟩
     ·rw[h0] at hlt2;exact absurd hlt2 (Nat.not_lt_zero _)
     obtain⟨kv,c0,c1,c2,c3,c4,c5,c6,⟨ka,kc,rfl,-⟩,-⟩:=hca k n hn;have lb:=zac c0;have k2:(k:Int)<(ns.length:Int):=by omega
     have HN:=Lib.hid hn;clear hca hn c0 c2 c3 c4 c5 c6;by_cases hx:60<n.kids.length
     ·have k3:(60:Int)<(n.kids.length:Int):=by omega
      go_wp2;go_ret;exact⟨zaf (zvm HN.out hx).symm,HB.out _⟩
     ·have k3:¬(60:Int)<(n.kids.length:Int):=by omega
      go_wp2
      go_round
      case rel=>exact⟨k+1,by omega,by go_num,fun j x hj hx2=>by
       by_cases e:j=k
       ·subst e
        have:=HN.out;rw[hx2] at this;obtain rfl:=Option.some.inj this;omega
       ·exact HA2.out j x (by omega) hx2⟩
      case measure=>simp[intOf];omega
    ·obtain rfl:k=ns.length:=by omega
     have k2:¬(ns.length:Int)<(ns.length:Int):=by omega
     have HF:=Lib.hid (z43 HA.out HA2.out);by_cases h30:rs.length<=30
     ·rw[decide_eq_true h30,Bool.true_and] at HF
      have k3:(rs.length:Int)<=30:=by omega
      by_cases h300:ns.length<=300
      ·rw[decide_eq_true h300] at HF
       have k4:(ns.length:Int)<=300:=by omega
       go_wp2;go_ret;exact⟨zaf HF.out.symm,HB.out _⟩
      ·rw[decide_eq_false h300] at HF
       have k4:¬(ns.length:Int)<=300:=by omega
       go_wp2;go_ret;exact⟨zaf HF.out.symm,HB.out _⟩
     ·rw[decide_eq_false h30,Bool.false_and] at HF
      have k3:¬(rs.length:Int)<=30:=by omega
      go_wp2;go_ret;exact⟨zaf HF.out.symm,HB.out _⟩
theorem IntsAt.at' {w:World}{a:Option Addr}{n cap:Nat}{l:List Int}{i:Nat}{x:Int}(h:IntsAt w (.slice a n cap) l)(hx:l[i]?=some x):∃b off,a=some ⟨b,off,none⟩/\w.cell? ⟨b,off+i,none⟩=some (.int .i64 x):=by
 obtain⟨a',cap',e,h⟩:=h;injection e with e1 e2 e3;subst e1;rcases h with h|⟨b,off,rfl,hc⟩
 ·rw[h] at hx;simp at hx
 ·exact⟨b,off,rfl,hc i x hx⟩
theorem zz8 {l:List Int}{k:Nat}{x:Int}(h:l[k]?=some x):(l.take (k+1)).reverse=x::(l.take k).reverse:=by
 rw[zap l k x h,List.reverse_append];rfl
theorem zq0 (ra na:Option Addr)(rn rc nn nc:Nat)(x:Int)(hx:x<0)(w:World) :
  Calls Tryz.prog 132 #[.agg #[.slice ra rn rc,.slice na nn nc],.int .i64 x] w fun e w'=>e=.returned (.int .i64 (-2))/\Below w.heap.size w w':=by
 go_enter Tryz.func132,Tryz.ntmps132;go_wp2;go_ret;exact⟨rfl,zab _ _⟩
theorem zq1 (ra na:Option Addr)(rn rc nn nc:Nat)(ns:List PN)(hs:ns.length<=1000000):∀(f i:Nat) (w:World),i<f->i<ns.length->NodesAt w (.slice na nn nc) ns ->
  Calls Tryz.prog 132 #[.agg #[.slice ra rn rc,.slice na nn nc],.int .i64 (i:Int)] w fun e w'=>e=.returned (.int .i64 (exL ns i))/\Below w.heap.size w w'
 |0,i,w,h,_,_=>absurd h (Nat.not_lt_zero _)
 |f+1,i,w,h,hi,hN=>by
  have IH:=fun(a:Int) (W:World) (ha:a<i) (hb:Below w.heap.size w W)=>(show Calls Tryz.prog 132 #[.agg #[.slice ra rn rc,.slice na nn nc],.int .i64 a] W fun e w'=>e=.returned (.int .i64 (exL ns a))/\Below W.heap.size W w' by
   by_cases h0:a<0
   ·rw[zug ns a h0];exact zq0 _ _ _ _ _ _ a h0 W
   ·obtain⟨m,rfl⟩:∃m:Nat,a=m:=⟨a.toNat,by omega⟩
    exact zq1 ra na rn rc nn nc ns hs f m W (by omega) (by omega) (hN.kept hb (Nat.le_refl _)))
  have HI:=Lib.hid IH;clear IH;obtain⟨n,hn⟩:∃n,ns[i]?=some n:=⟨_,List.getElem?_eq_getElem hi⟩;have hE:=zg0 ns (i:Int) (by omega);rw[show(i:Int).toNat=i by omega,zbn hn] at hE;have HE:=Lib.hid hE;have HB0:=Lib.hid (Below.refl w.heap.size w);clear hE;obtain⟨-,a,ca,he,hA⟩:=hN;injection he with e1 e2 e3;subst e1 e2 e3;rcases hA with h0|⟨nb,no,rfl,hca⟩
  ·rw[h0] at hi;exact absurd hi (Nat.not_lt_zero _)
  obtain⟨kv,c0,c1,c2,c3,c4,c5,c6,ci,cl⟩:=hca i n hn;have CI:=Lib.hid ci;obtain⟨ka,kc,rfl,-⟩:=ci;have lb:=zac c0;have k1:(i:Int)<(ns.length:Int):=by omega
  have HC1:=Lib.hid c1;unfold maxLen at cl;clear hca hn c0 c2 c3 c4 c5 c6;go_enter Tryz.func132,Tryz.ntmps132;go_wp2;clear c1
  go_loopw [5,6] (fun va vk wr=>∃(t:Nat) (a z:Int),t<=n.kids.length/\va=.int .i64 a/\vk=.int .i64 z/\z=(t:Int)-1 /\ -1<=a/\a<i/\zas (exL ns) (n.kids.take t).reverse a=exL ns i/\Below w.heap.size w wr/\w.heap.size<wr.heap.size/\wr.cell? ⟨w.heap.size,1,none⟩=some (.slice (some ⟨nb,no,none⟩) ns.length nc)/\wr.cell? ⟨w.heap.size,0,none⟩=some (.slice ra rn rc)) (fun _ vk _=>(intOf vk+1).toNat)
  case atStart=>exact⟨n.kids.length,_,_,Nat.le_refl _,rfl,rfl,rfl,by omega,by omega,by rw[List.take_length];exact HE.out.symm,zab _ _,by simp,by simp,by simp⟩
  case round=>
   obtain⟨t,a,z,ht,rfl,rfl,hz,ha1,ha2,hch,hbw,hsw,b1,b0⟩:=hrel;have HCH:=Lib.hid hch;have c1:=HC1.out;rw[<-(bcell hbw).1 _ _ lb] at c1;have CI2:=Lib.hid (CI.out.kept hbw (Nat.le_refl _));have HW:=Lib.hid hbw;have hsz:=hbw.size;clear hch hbw;by_cases ht0:t=0
   ·subst ht0
    obtain rfl:z=-1:=by omega
    have HR:Hid (a=exL ns i):=Lib.hid (by have:=HCH.out;rw[List.take_zero] at this;exact this);clear hz ht;go_wp2;go_ret;exact⟨zdv HR.out,HW.out⟩
   ·obtain⟨k,rfl⟩:∃k,t=k+1:=⟨t-1,by omega⟩
    obtain rfl:z=(k:Int):=by omega
    clear hz ht0;obtain⟨x,hx⟩:∃x,n.kids[k]?=some x:=⟨_,List.getElem?_eq_getElem (by omega)⟩;obtain⟨kb,ko,rfl,ck⟩:=CI2.out.at' hx;have hrv:=zz8 hx;have k2:(k:Int)<(n.kids.length:Int):=by omega
    rw[hrv] at HCH;clear hx hrv;by_cases hxa:x=a
    ·subst hxa
     have q1:(x != x)=false:=by simp
     by_cases he:exL ns x=-2
     ·have hq:exL ns (i:Int)=-2:=by rw[<-HCH.out,zb9 he]
      have HQ:=Lib.hid hq;have HC:=Lib.hid (HI.out x wr ha2 HW.out);rw[he] at HC;clear he hq
      go_wp2_with (go_at_call 132;(with_reducible refine HC.out.mono ?_);rintro e w1 ⟨rfl,hb⟩;have HW1:=Lib.hid (HW.out.trans (hb.mono hsz));clear hb)
      go_ret;exact⟨zdv HQ.out.symm,HW1.out⟩
     ·have hl:=zd5 ns x he
      have hs:=zbo (ex:=exL ns) (a:=x) (ks:=(n.kids.take k).reverse) he;rw[hs] at HCH;have HC:=Lib.hid (HI.out x wr ha2 HW.out);generalize exL ns x=y at *;have q2:(y == -2)=false:=zaj he;clear he hs
      go_wp2_with (go_at_call 132;(with_reducible refine HC.out.mono ?_);rintro e w1 ⟨rfl,hb⟩;have HW1:=Lib.hid (HW.out.trans (hb.mono hsz));have b1':=(bcell hb).1 _ 1 hsw;have b0':=(bcell hb).1 _ 0 hsw;rw[b1] at b1';rw[b0] at b0';have hsw1:=Nat.lt_of_lt_of_le hsw hb.size;clear hb)
      go_roundw
      case rel=>exact⟨k,y,(k:Int)-1,by omega,rfl,rfl,rfl,by omega,by omega,HCH.out,HW1.out,hsw1,b1',b0'⟩
      case measure=>simp[intOf]
    ·have q1:(x != a)=true:=zbx hxa
     have HQ:Hid (exL ns (i:Int)=-2):=Lib.hid (by rw[<-HCH.out,zcs hxa]);go_wp2;go_ret;exact⟨zdv HQ.out.symm,HW.out⟩
theorem zz9 (ra na:Option Addr)(rn rc nn nc:Nat)(ns:List PN)(hs:ns.length<=1000000)(a:Int)(ha:a<ns.length)(w:World)(hN:NodesAt w (.slice na nn nc) ns) :
  Calls Tryz.prog 132 #[.agg #[.slice ra rn rc,.slice na nn nc],.int .i64 a] w fun e w'=>e=.returned (.int .i64 (exL ns a))/\Below w.heap.size w w':=by
 by_cases h0:a<0
 ·rw[zug ns a h0];exact zq0 _ _ _ _ _ _ a h0 w
 ·obtain⟨m,rfl⟩:∃m:Nat,a=m:=⟨a.toNat,by omega⟩
  exact zq1 ra na rn rc nn nc ns hs (m+1) m w (Nat.lt_succ_self _) (by omega) hN
theorem zov (rv:Value)(na:Option Addr)(nn nc:Nat)(rs:List PR)(ns:List PN)(w:World)(hs:ns.length<=1000000)(hR:RulesIn w rv rs)(hN:NodesAt w (.slice na nn nc) ns) :
  Calls Tryz.prog 101 #[.agg #[rv,.slice na nn nc]] w fun e w'=>e=.returned (.bool (ordR ns rs (-1)))/\Below w.heap.size w w':=by
 have hN':=hN;obtain⟨-,na',nc',hne,-⟩:=hN';injection hne with n1 n2 n3;subst n1 n2 n3;obtain⟨hlr,ra,rc,rfl,hra⟩:=hR;unfold maxLen at hlr;have HX:=Lib.hid (fun(a:Int) (W:World) (ha:a<ns.length) (hb:Below w.heap.size w W)=>zz9 ra na rs.length rc ns.length nc ns hs a ha W (hN.kept hb (Nat.le_refl _)));clear hN;go_enter Tryz.func101,Tryz.ntmps101;go_wp2
 go_loopw [3,4] (fun vb vc wr=>∃(k:Nat) (b:Int),k<=rs.length/\vb=.int .i64 b/\vc=.int .i64 k /\ -1<=b/\b<(ns.length:Int)+1/\ordR ns (rs.drop k) b=ordR ns rs (-1)/\Below w.heap.size w wr/\w.heap.size<wr.heap.size/\wr.cell? ⟨w.heap.size,1,none⟩=some (.slice na ns.length nc)/\wr.cell? ⟨w.heap.size,0,none⟩=some (.slice ra rs.length rc)) (fun _ vc _=>rs.length-(intOf vc).toNat)
 case atStart=>exact⟨0,-1,Nat.zero_le _,rfl,rfl,by omega,by omega,rfl,zab _ _,by simp,by simp,by simp⟩
 case round=>
  obtain⟨k,b,hk,rfl,rfl,hb1,hb2,ho,hbw,hsw,b1,b0⟩:=hrel;have HO:=Lib.hid ho;clear ho;by_cases hlt:k<rs.length
  ·obtain⟨r,hr⟩:∃r,rs[k]?=some r:=⟨_,List.getElem?_eq_getElem hlt⟩
   rcases hra with h0|⟨rb,ro,rfl,hca⟩
   ·rw[h0] at hlt;exact absurd hlt (Nat.not_lt_zero _)
   obtain⟨c0,c1⟩:=(hca k r hr).kept hbw (Nat.le_refl _);have lb:=zac c0;have hcd:rs.drop k=r::rs.drop (k+1):=by
    obtain⟨h1,h2⟩:=List.getElem?_eq_some_iff.1 hr;rw[List.drop_eq_getElem_cons h1,h2]
   rw[hcd] at HO;have k1:(k:Int)<(rs.length:Int):=by omega
   have HW:=Lib.hid hbw;have hsz:=hbw.size;clear hca hr hbw hcd c0;by_cases h1:r.root<=b
   ·have HF:Hid (ordR ns rs (-1)=false):=Lib.hid (by
     rw[<-HO.out];show(if r.root<=b∨(ns.length:Int)<=r.root∨exL ns r.root≠b then false else _)=false;rw[if_pos (Or.inl h1)])
    go_wp2;go_ret;exact⟨zaf HF.out.symm,HW.out⟩
   ·by_cases h2:(ns.length:Int)<=r.root
    ·have HF:Hid (ordR ns rs (-1)=false):=Lib.hid (by
      rw[<-HO.out];show(if r.root<=b∨(ns.length:Int)<=r.root∨exL ns r.root≠b then false else _)=false;rw[if_pos (Or.inr (Or.inl h2))])
     go_wp2;go_ret;exact⟨zaf HF.out.symm,HW.out⟩
    ·have HC:=Lib.hid (HX.out r.root wr (by omega) HW.out)
     by_cases h3:exL ns r.root=b
     ·have HT:=Lib.hid (zuh (t:=rs.drop (k+1)) (by omega) (by omega) h3)
      rw[h3] at HC;have q1:(b != b)=false:=by simp
      clear h3
      go_wp2_with (go_at_call 132;(with_reducible refine HC.out.mono ?_);rintro e w1 ⟨rfl,hb⟩;have HW1:=Lib.hid (HW.out.trans (hb.mono hsz));have b1':=(bcell hb).1 _ 1 hsw;have b0':=(bcell hb).1 _ 0 hsw;rw[b1] at b1';rw[b0] at b0';have d1:=(bcell hb).1 _ (ro+k*2+1) lb;rw[c1] at d1;have hsw1:=Nat.lt_of_lt_of_le hsw hb.size;clear hb)
      go_roundw
      case rel=>exact⟨k+1,r.root,by omega,rfl,by go_num,by omega,by omega,by rw[<-HT.out];exact HO.out,HW1.out,hsw1,b1',b0'⟩
      case measure=>simp[intOf];omega
     ·have HF:Hid (ordR ns rs (-1)=false):=Lib.hid (by
       rw[<-HO.out];show(if r.root<=b∨(ns.length:Int)<=r.root∨exL ns r.root≠b then false else _)=false;rw[if_pos (Or.inr (Or.inr h3))])
      generalize exL ns r.root=y at HC h3;have q1:(y != b)=true:=zbx h3;clear h3
      go_wp2_with (go_at_call 132;(with_reducible refine HC.out.mono ?_);rintro e w1 ⟨rfl,hb⟩;have HW1:=Lib.hid (HW.out.trans (hb.mono hsz));clear hb)
      go_ret;exact⟨zaf HF.out.symm,HW1.out⟩
  ·obtain rfl:k=rs.length:=by omega
   have k1:¬(rs.length:Int)<(rs.length:Int):=by omega
   have HF:Hid (ordR ns rs (-1)=(b == (ns.length:Int)-1)):=Lib.hid (by rw[<-HO.out,List.drop_length];rfl);have HW:=Lib.hid hbw;clear hbw hra;go_wp2;go_ret;exact⟨zaf HF.out.symm,HW.out⟩
theorem zsx {l:List Int}{k:Nat}{x:Int}{f:Nat->Int->Nat}(h:l[k]?=some x):(l.take (k+1)).foldl f 0=f ((l.take k).foldl f 0) x:=by
 rw[zap l k x h,List.foldl_append];rfl
theorem z47 (a b:Nat):Value.int .i64 (if a<b then (b:Int) else (a:Int))=.int .i64 ((max a b:Nat):Int):=by
 congr 1;split<;>omega
theorem depK {n b0 nb kb k1 k2:Nat}{v0 v1 v2 v3:Value}{w W W':World}(hn:n<=w.heap.size)(hb:Below W.heap.size W W')(h:W.cell? ⟨b0,0,none⟩=some v0/\W.cell? ⟨b0,1,none⟩=some v1/\W.cell? ⟨nb,k1,none⟩=some v2/\W.cell? ⟨kb,k2,none⟩=some v3/\b0<W.heap.size/\Below n w W):W'.cell? ⟨b0,0,none⟩=some v0/\W'.cell? ⟨b0,1,none⟩=some v1/\W'.cell? ⟨nb,k1,none⟩=some v2/\W'.cell? ⟨kb,k2,none⟩=some v3/\b0<W'.heap.size/\Below n w W':=by
 obtain⟨h0,h1,h2,h3,h4,h5⟩:=h;have hc:=(bcell hb).1;exact⟨by rw[hc _ _ h4];exact h0,by rw[hc _ _ h4];exact h1,by rw[hc _ _ (zac h2)];exact h2,by rw[hc _ _ (zac h3)];exact h3,Nat.lt_of_lt_of_le h4 hb.size,h5.trans (hb.mono (Nat.le_trans hn h5.size))⟩
theorem zmt (ra na:Option Addr)(rn rc nn nc:Nat)(ns:List PN)(hs:ns.length<=1000000)(hK:zcv ns):∀(m i:Nat) (z:Int) (w:World),z=(m:Int)->m<=1000->i<ns.length->NodesAt w (.slice na nn nc) ns ->
  Calls Tryz.prog 102 #[.agg #[.slice ra rn rc,.slice na nn nc],.int .i64 (i:Int),.int .i64 z] w fun e w'=>e=.returned (.int .i64 (rdF ns m i:Int))/\Below w.heap.size w w'
 |0,i,z,w,hz,hm,hi,hN=>by
  obtain rfl:z=0:=by omega
  obtain⟨n,hn⟩:∃n,ns[i]?=some n:=⟨_,List.getElem?_eq_getElem hi⟩;obtain⟨-,a,ca,he,hA⟩:=hN;injection he with e1 e2 e3;subst e1 e2 e3;rcases hA with h0|⟨nb,no,rfl,hca⟩
  ·rw[h0] at hi;exact absurd hi (Nat.not_lt_zero _)
  obtain⟨kv,c0,c1,c2,c3,c4,c5,c6,ci,cl⟩:=hca i n hn;obtain⟨ka,kc,rfl,-⟩:=ci;have lb:=zac c0;have k1:(i:Int)<(ns.length:Int):=by omega
  unfold maxLen at cl;clear hca hn c0 c2 c3 c4 c5 c6 hz;go_enter Tryz.func102,Tryz.ntmps102;go_wp2
  go_loop [7,8] (fun d c=>d=.int .i64 0/\c=.int .i64 0) (fun _ _=>0)
  case atStart=>exact⟨rfl,rfl⟩
  case round=>
   obtain⟨rfl,rfl⟩:=hrel;by_cases h0:0<n.kids.length
   ·have k2:(0:Int)<(n.kids.length:Int):=by omega
    go_wp2;go_ret;exact⟨rfl,zab _ _⟩
   ·have k2:¬(0:Int)<(n.kids.length:Int):=by omega
    go_wp2;go_ret;exact⟨rfl,zab _ _⟩
 |m+1,i,z,w,hz,hm,hi,hN=>by
  have IH:=fun(a:Int) (W:World) (ha0:0<=a) (ha:a<i) (hb:Below w.heap.size w W)=>(show Calls Tryz.prog 102 #[.agg #[.slice ra rn rc,.slice na nn nc],.int .i64 a,.int .i64 (m:Int)] W fun e w'=>e=.returned (.int .i64 (rdF ns m a:Int))/\Below W.heap.size W w' by
   obtain⟨k,rfl⟩:∃k:Nat,a=k:=⟨a.toNat,by omega⟩;exact zmt ra na rn rc nn nc ns hs hK m k m W rfl (by omega) (by omega) (hN.kept hb (Nat.le_refl _)))
  have HI:=Lib.hid IH;clear IH;have ez:z-1=(m:Int):=by omega
  have ew:IntKind.i64.wrap (m:Int)=(m:Int):=IntWalk.i64_in _ (by omega);have z0:(0:Int)<z:=by omega
  have z1:z<=1000:=by omega
  clear hz;obtain⟨n,hn⟩:∃n,ns[i]?=some n:=⟨_,List.getElem?_eq_getElem hi⟩;have HK:=Lib.hid (hK i n hn);have HR:Hid (rdF ns (m+1) i=n.kids.foldl (fun d k=>max d (rdF ns m k)) 0+1):=Lib.hid (by
   show(zcu ns (i:Int).toNat).foldl (fun d k=>max d (rdF ns m k)) 0+1=_;rw[show(i:Int).toNat=i by omega,zbn hn])
  have hle:rdF ns (m+1) i<=m+2:=by rw[zul hK (m+1) i (by omega) (by omega)];omega
  obtain⟨-,a,ca,he,hA⟩:=hN;injection he with e1 e2 e3;subst e1 e2 e3;rcases hA with h0|⟨nb,no,rfl,hca⟩
  ·rw[h0] at hi;exact absurd hi (Nat.not_lt_zero _)
  obtain⟨kv,c0,c1,c2,c3,c4,c5,c6,ci,cl⟩:=hca i n hn;have CI:=Lib.hid ci;obtain⟨ka,kc,rfl,-⟩:=ci;have lb:=zac c0;have k1:(i:Int)<(ns.length:Int):=by omega
  have HC1:=Lib.hid c1;unfold maxLen at cl;clear hca hn c0 c2 c3 c4 c5 c6;go_enter Tryz.func102,Tryz.ntmps102;go_wp2;clear c1
  go_loopw [7,8] (fun vd vk wr=>∃(k d:Nat),k<=n.kids.length/\vd=.int .i64 d/\vk=.int .i64 k/\d=(n.kids.take k).foldl (fun d k=>max d (rdF ns m k)) 0/\Below w.heap.size w wr/\w.heap.size<wr.heap.size/\wr.cell? ⟨w.heap.size,0,none⟩=some (.slice ra rn rc)/\wr.cell? ⟨w.heap.size,1,none⟩=some (.slice (some ⟨nb,no,none⟩) ns.length nc)) (fun _ vk _=>n.kids.length-(intOf vk).toNat)
  case atStart=>exact⟨0,0,Nat.zero_le _,rfl,rfl,rfl,zab _ _,by simp,by simp,by simp⟩
  case round=>
   obtain⟨k,d,hk,rfl,rfl,hd,hbw,hsw,b0,b1⟩:=hrel;have HD:=Lib.hid hd;have c1:=HC1.out;rw[<-(bcell hbw).1 _ _ lb] at c1;have CI2:=Lib.hid (CI.out.kept hbw (Nat.le_refl _));clear hd;by_cases hlt:k<n.kids.length
   ·obtain⟨x,hx⟩:∃x,n.kids[k]?=some x:=⟨_,List.getElem?_eq_getElem hlt⟩
    obtain⟨kb,ko,rfl,ck⟩:=CI2.out.at' hx;have hkx:=HK.out x (List.mem_of_getElem? hx);have HF:=Lib.hid (zsx (f:=fun d k=>max d (rdF ns m k)) hx);have HC:=Lib.hid (fun W hW=>HI.out x W hkx.1 hkx.2 hW);rw[<-HD.out] at HF;generalize rdF ns m x=y at HF HC;have k2:(k:Int)<(n.kids.length:Int):=by omega
    have HW:=Lib.hid hbw;clear hx hkx;go_wp2;obtain⟨n0,hn0⟩:∃n0,w.heap.size=n0:=⟨_,rfl⟩;have hnw:n0<=w.heap.size:=Nat.le_of_eq hn0.symm;have HN0:=Lib.hid hn0;have hS:(fun W:World=>W.cell? ⟨w.heap.size,0,none⟩=some (.slice ra rn rc)/\W.cell? ⟨w.heap.size,1,none⟩=some (.slice (some ⟨nb,no,none⟩) ns.length nc)/\W.cell? ⟨nb,no+i*7+1,none⟩=some (.slice (some ⟨kb,ko,none⟩) n.kids.length kc)/\W.cell? ⟨kb,ko+k,none⟩=some (.int .i64 x)/\w.heap.size<W.heap.size/\Below n0 w W) wr.drew:=⟨b0,b1,c1,ck,hsw,by rw[<-hn0];exact HW.out.drew⟩;clear hn0 b0 b1 c1 ck hsw HW hbw;dsimp only at hS
    go_region_held3 (fun W=>W.cell? ⟨w.heap.size,0,none⟩=some (.slice ra rn rc)/\W.cell? ⟨w.heap.size,1,none⟩=some (.slice (some ⟨nb,no,none⟩) ns.length nc)/\W.cell? ⟨nb,no+i*7+1,none⟩=some (.slice (some ⟨kb,ko,none⟩) n.kids.length kc)/\W.cell? ⟨kb,ko+k,none⟩=some (.int .i64 x)/\w.heap.size<W.heap.size/\Below n0 w W) (first|exact hS)
     (first|(go_at_call 102;with_reducible refine(HC.out _ (by rw[HN0.out];exact hS.2.2.2.2.2)).mono ?_;rintro ev w3 ⟨rfl,hb⟩;replace hS:=depK hnw hb hS;clear hb))
    obtain⟨b0,b1,-,-,hsw,hb3⟩:=hS;have HB3:=Lib.hid hb3;clear hb3;go_wp2;go_roundw
    case rel=>exact⟨k+1,max d y,by omega,by first|exact z47 d y|exact congrArg (Value.int .i64) (by omega),by go_num,HF.out.symm,by rw[HN0.out];exact HB3.out,hsw,b0,b1⟩
    case measure=>simp[intOf];omega
   ·obtain rfl:k=n.kids.length:=by omega
    have HQ:Hid (rdF ns (m+1) i=d+1):=Lib.hid (by rw[HR.out,HD.out,List.take_length]);have hd1:(d:Int)+1<=2000:=by have:=HQ.out;omega
    have hd0:(0:Int)<=(d:Int):=by omega
    have k2:¬(n.kids.length:Int)<(n.kids.length:Int):=by omega
    have HW:=Lib.hid hbw;clear hbw hle;go_wp2;go_ret;exact⟨zdv (by rw[HQ.out];omega),HW.out⟩
def NAt (f:Nat->Nat)(n B:Nat)(w:World):Prop:=∀j,j<n->w.cell? ⟨B,j,none⟩=some (.int .i64 (f j:Int))/\w.frozen? ⟨B,j,none⟩=false
def updN (f:Nat->Nat)(i x:Nat):Nat->Nat:=fun j=>if j=i then x else f j
theorem NAt.put {f:Nat->Nat}{n B i x:Nat}{w:World}(h:NAt f n B w):NAt (updN f i x) n B (w.setCell ⟨B,i,none⟩ (.int .i64 (x:Int))):=fun j hj=>by
 refine⟨?_,by rw[World.frozen?_setCell];exact(h j hj).2⟩;unfold updN;by_cases e:j=i
 ·subst e;rw[World.cell?_setCell_same' _ _ _ (by rw[(h _ hj).1];rfl)];simp
 ·rw[World.cell?_setCell_other _ _ _ _ (by intro hh;injection hh with _ h2;exact e h2.symm),(h j hj).1];simp[e]
theorem NAt.put' {f:Nat->Nat}{n B i x:Nat}{y:Int}{w:World}(h:NAt f n B w)(hy:y=x):NAt (updN f i x) n B (w.setCell ⟨B,i,none⟩ (.int .i64 y)):=by subst hy;exact h.put
theorem NAt.drew {f:Nat->Nat}{n B:Nat}{w:World}(h:NAt f n B w):NAt f n B w.drew:=h
theorem NAt.below {f:Nat->Nat}{n B k:Nat}{w w':World}(h:NAt f n B w)(hb:Below k w w')(hB:B<k):NAt f n B w':=fun j hj=>by
 have hc:=bcell hb;exact⟨by rw[hc.1 _ _ hB];exact(h j hj).1,by rw[hc.2 _ _ hB];exact(h j hj).2⟩
theorem NAt.congr {f g:Nat->Nat}{n B:Nat}{w:World}(h:NAt f n B w)(e:∀j,j<n->f j=g j):NAt g n B w:=fun j hj=>by rw[<-e j hj];exact h j hj
theorem IntsAt.at {w:World}{a:Option Addr}{n cap:Nat}{l:List Int}{i:Nat}{x:Int}(h:IntsAt w (.slice a n cap) l)(hx:l[i]?=some x):∃b off,a=some ⟨b,off,none⟩/\w.cell? ⟨b,off+i,none⟩=some (.int .i64 x):=by
 obtain⟨a',cap',e,h⟩:=h;injection e with e1 e2 e3;subst e1;rcases h with h|⟨b,off,rfl,hc⟩
 ·rw[h] at hx;simp at hx
 ·exact⟨b,off,rfl,hc i x hx⟩
theorem NAt.made (w:World)(n:Nat)(t:TypeId):NAt (fun _=>0) n w.heap.size (w.alloc (.cells (madeCells #[.int .i64 0] n) t)):=fun j hj=>by
 have hb:(w.alloc (.cells (madeCells #[.int .i64 0] n) t)).heap[w.heap.size]?=some (.cells (madeCells #[.int .i64 0] n) t):=heap_alloc_new w _;refine⟨?_,by simp⟩;rw[Lib.cell_of_heap hb];simp[madeCells,hj,Nat.mod_one]
theorem zsy (ra:Option Addr)(rn rc:Nat)(nv:Value)(ns:List PN)(w:World)(hN:NodesAt w nv ns)(hs:ns.length<=1000000)(hK:zcv ns) :
  Calls Tryz.prog 130 #[.agg #[.slice ra rn rc,nv]] w fun e w'=>(∃B cap,e=.returned (.slice (some ⟨B,0,none⟩) ns.length cap)/\w.heap.size<=B/\B<w'.heap.size/\NAt (dpL ns) ns.length B w')/\Below w.heap.size w w':=by
 obtain⟨hl,a,ca,rfl,ha⟩:=hN;have hmk:=fun w=>run_make_row' (P:=Tryz.prog) 29 3 (.int .i64 0) 8 Tryz.underlying29 za3 rfl .i64 .i64 ns.length (by omega) (by omega) w
 go_enter Tryz.func130,Tryz.ntmps130;go_wp2;have hD:NAt (fun _=>0) ns.length (w.heap.size+1) ((w.alloc (.cells #[.slice ra rn rc,.slice a ns.length ca] 25)).alloc (.cells (madeCells #[.int .i64 0] ns.length) 3)):=by
  have:=NAt.made (w.alloc (.cells #[.slice ra rn rc,.slice a ns.length ca] 25)) ns.length 3;rw[World.size_alloc] at this;exact this
 obtain⟨W,hW⟩:∃W,((w.alloc (.cells #[.slice ra rn rc,.slice a ns.length ca] 25)).alloc (.cells (madeCells #[.int .i64 0] ns.length) 3))=W:=⟨_,rfl⟩;have hb0:Below w.heap.size w W:=by rw[<-hW];exact zat w _ _
 have hz0:w.heap.size+1<W.heap.size:=by rw[<-hW];simp
 rw[hW] at hD ⊢;have HB0:=Lib.hid hb0;have HD0:=Lib.hid hD;clear hW hb0 hD hmk
 go_loopw [15] (fun c wr=>∃(i:Nat),i<=ns.length/\c=.int .i64 i/\Below w.heap.size w wr/\w.heap.size+1<wr.heap.size/\NAt (fun j=>if j<i then dpL ns j else 0) ns.length (w.heap.size+1) wr) (fun c _=>ns.length-(intOf c).toNat)
 case atStart=>exact⟨0,Nat.zero_le _,rfl,HB0.out,hz0,HD0.out⟩
 case round=>
  obtain⟨i,hi,rfl,hbw,hzw,hnat⟩:=hrel;have HW:=Lib.hid hbw;have HD:=Lib.hid hnat;have hsz:=hbw.size;by_cases hlt:i<ns.length
  ·obtain⟨n,hn⟩:∃n,ns[i]?=some n:=⟨_,List.getElem?_eq_getElem hlt⟩
   rcases ha with h0|⟨nb,no,rfl,hca⟩
   ·rw[h0] at hlt;exact absurd hlt (Nat.not_lt_zero _)
   have hNi:=hca i n hn;obtain⟨kv,c0,c1,c2,c3,c4,c5,c6,ci,cl⟩:=hNi.kept hbw (Nat.le_refl _);obtain⟨kv',-,g1,-,-,-,-,-,gi,-⟩:=hNi;have ekv:kv'=kv:=by
    have:=(bcell hbw).1 nb (no+i*7+1) (zac g1);rw[c1,g1] at this;exact(Option.some.inj this).symm
   subst ekv;have GI:=Lib.hid gi;obtain⟨ka,kc,rfl,-⟩:=ci;have lb:=zac c0;have k1:(i:Int)<(ns.length:Int):=by omega
   have HK:=Lib.hid (hK i n hn);have HE:=Lib.hid (zqm hK hn);unfold maxLen at cl;clear hca hn hbw hnat gi g1;go_wp2;obtain⟨W1,hW1⟩:∃W1,(wr.alloc (.cells #[.int .i64 n.op,.slice ka n.kids.length kc,.int .i64 n.rule,.int .u64 n.s0,.int .u64 n.s1,.int .u64 n.s2,.int .u64 n.s3] 51))=W1:=⟨_,rfl⟩;have hb1:Below w.heap.size w W1:=by rw[<-hW1];exact HW.out.alloc hsz _
   have hz1:w.heap.size+1<W1.heap.size:=by rw[<-hW1];simp;omega
   have hd1:NAt (updN (fun j=>if j<i then dpL ns j else 0) i 0) ns.length (w.heap.size+1) W1:=by
    rw[<-hW1];refine(HD.out.below (zab wr _) hzw).congr (fun j _=>?_);unfold updN;by_cases e:j=i
    ·subst e;simp
    ·simp[e]
   rw[hW1];have HB1:=Lib.hid hb1;have HD1:=Lib.hid hd1;clear hW1 hb1 hd1 c0 c1 c2 c3 c4 c5 c6
   go_loopw [23] (fun c wq=>∃(t:Nat),t<=n.kids.length/\c=.int .i64 t/\Below w.heap.size w wq/\w.heap.size+1<wq.heap.size/\NAt (updN (fun j=>if j<i then dpL ns j else 0) i ((n.kids.take t).foldl (fun m k=>max m ((depsL ns).getD k.toNat 0)) 0)) ns.length (w.heap.size+1) wq) (fun c _=>n.kids.length-(intOf c).toNat)
   case atStart=>exact⟨0,Nat.zero_le _,rfl,HB1.out,hz1,HD1.out⟩
   case round=>
    obtain⟨t,ht,rfl,hbq,hzq,hdq⟩:=hrel;by_cases htl:t<n.kids.length
    ·obtain⟨k,hk⟩:∃k,n.kids[t]?=some k:=⟨_,List.getElem?_eq_getElem htl⟩
     obtain⟨kb,ko,rfl,ck⟩:=(GI.out.kept hbq (Nat.le_refl _)).at hk;have hkb:=HK.out k (List.mem_of_getElem? hk);obtain⟨m,rfl⟩:∃m:Nat,k=m:=⟨k.toNat,by omega⟩;have hts:=zap n.kids t _ hk;have hd2:=hdq i hlt;have hd3:=hdq m (by omega);have e2:updN (fun j=>if j<i then dpL ns j else 0) i ((n.kids.take t).foldl (fun m k=>max m ((depsL ns).getD k.toNat 0)) 0) i=(n.kids.take t).foldl (fun m k=>max m ((depsL ns).getD k.toNat 0)) 0:=if_pos rfl;have e3:updN (fun j=>if j<i then dpL ns j else 0) i ((n.kids.take t).foldl (fun m k=>max m ((depsL ns).getD k.toNat 0)) 0) m=dpL ns m:=by
      unfold updN;rw[if_neg (by omega)];exact if_pos (by omega)
     rw[e2] at hd2;rw[e3] at hd3;have HT:Hid ((n.kids.take (t+1)).foldl (fun m k=>max m ((depsL ns).getD k.toNat 0)) 0=max ((n.kids.take t).foldl (fun m k=>max m ((depsL ns).getD k.toNat 0)) 0) (dpL ns m)):=Lib.hid (by rw[hts,List.foldl_append];rfl);generalize (n.kids.take t).foldl (fun m k=>max m ((depsL ns).getD k.toNat 0)) 0=M at *;generalize dpL ns m=D at *;obtain⟨c8,f8⟩:=hd2;obtain⟨c9,f9⟩:=hd3;have k2:(m:Int)<(i:Int):=by omega
     have k3:(t:Int)<(n.kids.length:Int):=by omega
     have HBQ:=Lib.hid hbq;have HDQ:=Lib.hid hdq;clear hbq hdq hts hk hkb e2 e3;go_wp2
     go_region
     all_goals
      go_wp2;go_roundw
      case rel=>exact⟨t+1,by omega,by go_num,(HBQ.out.setCell (Nat.le_succ w.heap.size) _).drew,by simpa using hzq,by
       rw[HT.out];refine NAt.drew ((HDQ.out.put' (x:=max M D) (by first|omega|(split<;>omega))).congr (fun j _=>?_));unfold updN;by_cases e:j=i
       ·simp[e]
       ·simp[e]⟩
      case measure=>simp[intOf];omega
    ·have htk:t=n.kids.length:=by omega
     subst htk;rw[List.take_length] at hdq;have hd2:=hdq i hlt;have e2:updN (fun j=>if j<i then dpL ns j else 0) i (n.kids.foldl (fun m k=>max m ((depsL ns).getD k.toNat 0)) 0) i=n.kids.foldl (fun m k=>max m ((depsL ns).getD k.toNat 0)) 0:=if_pos rfl;rw[e2] at hd2;have hle:=zuk hK (i+1) i (Nat.lt_succ_self _) hlt;have he:=HE.out;unfold maxK at he;generalize n.kids.foldl (fun m k=>max m ((depsL ns).getD k.toNat 0)) 0=M at *;have hM:(M:Int)+1<=1000001:=by omega
     have hM0:0<=(M:Int):=by omega
     obtain⟨c8,f8⟩:=hd2;have HBQ:=Lib.hid hbq;have HDQ:=Lib.hid hdq;have HE2:=Lib.hid he;clear hbq hdq he hle e2 HE;go_wp2;refine⟨⟨i+1,by omega,by go_num,HBQ.out.setCell (Nat.le_succ w.heap.size) _,by simpa using hzq,?_⟩,by simp[intOf];omega⟩;refine(HDQ.out.put' (x:=M+1) (by omega)).congr (fun j _=>?_);unfold updN;by_cases e:j=i
     ·subst e;rw[if_pos rfl,if_pos (Nat.lt_succ_self _),HE2.out]
     ·rw[if_neg e,if_neg e]
      by_cases e2:j<i
      ·simp[e2,Nat.lt_succ_of_lt e2]
      ·simp[e2,show ¬j<i+1 by omega]
  ·have hin:i=ns.length:=by omega
   subst hin;clear hnat hbw;go_wp2;go_ret;exact⟨⟨_,_,rfl,by omega,hzw,HD.out.congr (fun j hj=>if_pos hj)⟩,HW.out⟩
open Go.Maps
theorem zc6 (c p:Int)(w:World) :
  Calls Tryz.prog 53 #[.int .i64 c,.int .i64 p] w fun ev w'=>ev=.returned (.iface 132 (.agg #[.int .i64 c,.int .i64 p]))/\w=w':=by
 go_enter Tryz.func53,Tryz.ntmps53;go_wp2;go_ret;exact⟨rfl,rfl⟩
theorem zcb (r:ByteArray)(c p:Int)(w:World) :
  Calls Tryz.prog 51 #[.string r,.iface 132 (.agg #[.int .i64 c,.int .i64 p])] w fun ev w'=>ev=.returned (.iface 126 (.pointer (some ⟨w.heap.size,0,none⟩)))/\w'=w.alloc (.cells #[.string r,.iface 132 (.agg #[.int .i64 c,.int .i64 p])] 128):=by
 go_enter Tryz.func51,Tryz.ntmps51;go_wp2;go_ret;exact⟨rfl,rfl⟩
def PartErr (part:ByteArray)(c p:Int)(w:World)(e:Ending)(w':World):Prop:=(∃b,e=.returned (.iface 126 (.pointer (some ⟨b,0,none⟩)))/\(Err.within b part (.fault c p)).In w')/\Below w.heap.size w w'
theorem PartErr.mk {part:ByteArray}{c p:Int}{W w:World}{n:Nat}(hn:n=W.heap.size)(hb:Below w.heap.size w W):PartErr part c p w (.returned (.iface 126 (.pointer (some ⟨n,0,none⟩)))) (W.alloc (.cells #[.string part,.iface 132 (.agg #[.int .i64 c,.int .i64 p])] 128)):=by
 subst hn;refine⟨⟨_,rfl,?_⟩,hb.alloc hb.size _⟩;refine⟨by simp,by simp[Err.val],trivial⟩
theorem zq2 (ra na:Option Addr)(rn rc nn nc:Nat)(w:World)(hr:rn<=9223372036854775807)(hn:nn<=9223372036854775807) :
  Calls Tryz.prog 94 #[.agg #[.slice ra rn rc,.slice na nn nc]] w fun e w'=>e=.returned (if 1000<rn∨10000<nn then .iface 81 (.int .i64 4) else .nilIface)/\Below w.heap.size w w':=by
 by_cases h1:1000<rn
 ·rw[if_pos (Or.inl h1)]
  have k1:(1000:Int)<(rn:Int):=by omega
  go_enter Tryz.func94,Tryz.ntmps94;go_wp2;go_ret;exact⟨rfl,zab _ _⟩
 ·have k1:¬(1000:Int)<(rn:Int):=by omega
  by_cases h2:10000<nn
  ·rw[if_pos (Or.inr h2)]
   have k2:(10000:Int)<(nn:Int):=by omega
   go_enter Tryz.func94,Tryz.ntmps94;go_wp2;go_ret;exact⟨rfl,zab _ _⟩
  ·rw[if_neg (by omega)]
   have k2:¬(10000:Int)<(nn:Int):=by omega
   go_enter Tryz.func94,Tryz.ntmps94;go_wp2;go_ret;exact⟨rfl,zab _ _⟩
def zmu:ByteArray:=⟨#[114,117,108,101,115]⟩
def zjg:ByteArray:=⟨#[110,111,100,101,115]⟩
def FirstIs (o:Option Nat)(part:ByteArray)(c:Int)(w:World)(e:Ending)(w':World):Prop:=match o with
 |none=>e=.returned .nilIface/\Below w.heap.size w w'
 |some p=>PartErr part c (p:Int) w e w'
theorem FirstIs.nil {o:Option Nat}{part:ByteArray}{c:Int}{w w':World}(h:o=.none)(hb:Below w.heap.size w w'):FirstIs o part c w (.returned .nilIface) w':=by subst h;exact⟨rfl,hb⟩
theorem FirstIs.hit {o:Option Nat}{part:ByteArray}{c:Int}{w W:World}{p n:Nat}(h:o=.some p)(hn:n=W.heap.size)(hb:Below w.heap.size w W):FirstIs o part c w (.returned (.iface 126 (.pointer (some ⟨n,0,none⟩)))) (W.alloc (.cells #[.string part,.iface 132 (.agg #[.int .i64 c,.int .i64 (p:Int)])] 128)):=by
 subst h;exact PartErr.mk hn hb
theorem zow (ra:Option Addr)(rn rc:Nat)(nv:Value)(ns:List PN)(w:World)(hN:NodesAt w nv ns)(hs:ns.length<=1000000)(hK:zcv ns) :
  Calls Tryz.prog 98 #[.agg #[.slice ra rn rc,nv]] w (FirstIs (fbad (zbp ns) ns.length 0) zjg 5 w):=by
 have HD:=Lib.hid (fun(o:Obj)=>zsy ra rn rc nv ns (w.alloc o) (hN.kept (zab w o) (Nat.le_refl _)) hs hK);have hdl:∀i,i<ns.length->dpL ns i<=1000001:=fun i hi=>by have:=zuk hK (i+1) i (Nat.lt_succ_self _) hi;omega
 have HL:=Lib.hid hdl;clear hdl;obtain⟨-,a,ca,rfl,-⟩:=hN;go_enter Tryz.func98,Tryz.ntmps98
 go_wp2_with (go_at_call 130;(with_reducible refine(HD.out _).mono ?_);rintro e w1 ⟨⟨B,cap,rfl,hB0,hB1,hnat⟩,hb⟩;have HN:=Lib.hid hnat;have HW:=Lib.hid ((zab w _).trans (hb.mono (zab w _).size));clear hb hnat)
 go_loop [8] (fun c=>∃k:Nat,k<=ns.length/\c=.int .i64 k/\fbad (zbp ns) ns.length 0=fbad (zbp ns) (ns.length-k) k) (fun c=>ns.length-(intOf c).toNat)
 case atStart=>exact⟨0,Nat.zero_le _,rfl,rfl⟩
 case round=>
  obtain⟨k,hk,rfl,hf⟩:=hrel;have HF:=Lib.hid hf;clear hf;by_cases hlt:k<ns.length
  ·obtain⟨c0,-⟩:=HN.out k hlt
   have hle:=HL.out k hlt;have k1:(k:Int)<(ns.length:Int):=by omega
   have hsub:ns.length-k=(ns.length-(k+1))+1:=by omega
   rw[hsub] at HF;clear hsub;by_cases hd:200<dpL ns k
   ·have hbad:zbp ns k=true:=decide_eq_true hd
    have HR:=Lib.hid (HF.out.trans (zb3 hbad));have k2:(200:Int)<(dpL ns k:Int):=by omega
    clear hbad
    go_wp2_with (first
     |(go_at_call 53;(with_reducible refine(zc6 _ _ _).mono ?_);rintro e w2 ⟨rfl,rfl⟩)
     |(go_at_call 51;(with_reducible refine(zcb _ _ _ _).mono ?_);rintro e w2 ⟨rfl,rfl⟩))
    go_ret;exact FirstIs.hit HR.out rfl HW.out
   ·have hbad:zbp ns k=false:=decide_eq_false hd
    have HR:=Lib.hid (HF.out.trans (zdu hbad));have k2:¬(200:Int)<(dpL ns k:Int):=by omega
    clear hbad;go_wp2
    go_round
    case rel=>exact⟨k+1,by omega,by go_num,HR.out⟩
    case measure=>simp[intOf];omega
  ·obtain rfl:k=ns.length:=by omega
   have k1:¬(ns.length:Int)<(ns.length:Int):=by omega
   have HR:Hid (fbad (zbp ns) ns.length 0=none):=Lib.hid (by rw[HF.out,Nat.sub_self];rfl);go_wp2;go_ret;exact FirstIs.nil HR.out HW.out
def SeenAt (w:World)(b n:Nat)(seen:ByteArray->Bool):Prop:=∃D:DataW Unit,w.ownsMap Tryz.prog 9 (plainElem Tryz.prog 4) b n D/\Maps.IsMap D/\∀s:ByteArray,D.atKey (.string s.data.toList) (.lit (.bool false))=.lit (.bool (seen s))
theorem zk6:Keyed Tryz.prog 9:=string_keyed Tryz.underlying9
theorem zvn (w:World):(zeroValue 4).run Tryz.prog w=.ok (.bool false) w:=by kernel_rfl
theorem zfz {v:Value}{z:DataW Unit × List MemPlace}(h:plainElem Tryz.prog 4 v=some z):∃x,v=.bool x/\z=(.lit (.bool x),[]):=by
 unfold plainElem at h;rw[Tryz.underlying4] at h;cases v<;>simp at h
 exact⟨_,rfl,h.symm⟩
theorem SeenAt.made (w:World):SeenAt (w.alloc (.map #[] 0)) w.heap.size 0 (fun _=>false):=
 ⟨.map [],World.ownsMap_made _ _ _ _,Maps.isMap_empty,fun _=>rfl⟩
theorem SeenAt.alloc {w:World}{b n:Nat}{seen:ByteArray->Bool}(h:SeenAt w b n seen)(o:Obj):SeenAt (w.alloc o) b n seen:=by
 obtain⟨D,h1,h2,h3⟩:=h;exact⟨D,h1.alloc o,h2,h3⟩
theorem SeenAt.look {w:World}{b n:Nat}{seen:ByteArray->Bool}(h:SeenAt w b n seen)(s:ByteArray)(hs:s.size<=maxLen):(Instr.lookup 176 (.map (some b)) (.string s) false).run Tryz.prog w=.ok (.bool (seen s)) w:=by
 obtain⟨D,h1,h2,h3⟩:=h;obtain⟨v,ps,hrun,hv⟩:=h1.lookup zk6 Tryz.underlying176 (zvn w) (plainElem_bool Tryz.underlying4 false) (WideMaps.keyOf_string_mk Tryz.underlying9 hs);obtain⟨x,rfl,hx⟩:=zfz hv;rw[h3 s] at hx;injection hx with h4 h5;injection h4 with h6;injection h6 with h7;rw[hrun,h7]
theorem SeenAt.put {w:World}{D:DataW Unit}{b n:Nat}{seen seen':ByteArray->Bool}(s:ByteArray)(h1:w.ownsMap Tryz.prog 9 (plainElem Tryz.prog 4) b n (D.put (.string s.data.toList) (.lit (.bool true))))(h2:Maps.IsMap D)(h3:∀s:ByteArray,D.atKey (.string s.data.toList) (.lit (.bool false))=.lit (.bool (seen s)))
  (h:∀x,seen' x=(seen x || decide (s=x))):SeenAt w b n seen':=by
 refine⟨_,h1,h2.put _ _,fun x=>?_⟩;rw[h x];by_cases e:s=x
 ·subst e
  rw[Maps.atKey_put_same h2 (show WideAt.IsKeyLit (.string _) from trivial)];simp
 ·rw[Maps.atKey_put_other (by intro he;injection he with he;exact e (ByteArray.ext (Array.ext' he)).symm),h3 x,decide_eq_false e,Bool.or_false]
def seenL (rs:List PR)(k:Nat)(s:ByteArray):Bool:=(rs.take k).any (fun x=>decide (x.name=s))
theorem zjh {rs:List PR}{k:Nat}{r:PR}(h:rs[k]?=some r)(s:ByteArray):seenL rs (k+1) s=(seenL rs k s || decide (r.name=s)):=by
 unfold seenL;rw[zap rs k r h,List.any_append];simp
theorem zji {rs:List PR}{k:Nat}{r:PR}(h:rs[k]?=some r):zbm rs k=(seenL rs k r.name || !nameB (bts r.name)):=by
 unfold zbm;rw[h];rfl
theorem zsz (ra na:Option Addr)(rc nn nc:Nat)(w:World) :
  Calls Tryz.prog 95 #[.agg #[.slice ra 0 rc,.slice na nn nc]] w (PartErr zmu 10 0 w):=by
 have HB:=Lib.hid (zab w);go_enter Tryz.func95,Tryz.ntmps95
 go_wp2_with (first
  |(go_at_call 53;(with_reducible refine(zc6 _ _ _).mono ?_);rintro e w2 ⟨rfl,rfl⟩)
  |(go_at_call 51;(with_reducible refine(zcb _ _ _ _).mono ?_);rintro e w2 ⟨rfl,rfl⟩))
 go_ret;exact PartErr.mk (by simp) (HB.out _)
theorem zs0 (rv:Value)(na:Option Addr)(nn nc:Nat)(rs:List PR)(w:World)(hR:RulesIn w rv rs)(h0:0<rs.length)(hs:rs.length<=1000000)(hnm:∀r,r ∈ rs->r.name.size<=2000000) :
  Calls Tryz.prog 95 #[.agg #[rv,.slice na nn nc]] w (FirstIs (fbad (zbm rs) rs.length 0) zmu 10 w):=by
 have HM:=Lib.hid hnm;have HB0:=Lib.hid (zat w);have HS0:Hid (∀o,SeenAt ((w.alloc o).alloc (.map #[] 0)) (w.heap.size+1) 0 (seenL rs 0)):=Lib.hid fun o=>by
  have:=SeenAt.made (w.alloc o);rw[World.size_alloc] at this;exact this
 obtain⟨-,a,ca,rfl,ha⟩:=hR;have q0:((rs.length:Int) == 0)=false:=zaj (by omega);have hmm:=@run_makeMap Tryz.prog;clear hnm;rcases ha with h1|⟨rb,ro,rfl,hca⟩
 ·rw[h1] at h0;exact absurd h0 (Nat.not_lt_zero _)
 go_enter Tryz.func95,Tryz.ntmps95;go_wp2
 go_loopw [16] (fun c wr=>∃k:Nat,k<=rs.length/\c=.int .i64 k/\Below w.heap.size w wr/\SeenAt wr (w.heap.size+1) k (seenL rs k)/\fbad (zbm rs) rs.length 0=fbad (zbm rs) (rs.length-k) k) (fun c _=>rs.length-(intOf c).toNat)
 case atStart=>exact⟨0,Nat.zero_le _,rfl,HB0.out _ _,HS0.out _,rfl⟩
 case round=>
  obtain⟨k,hk,rfl,hbw,hse,hf⟩:=hrel;have HF:=Lib.hid hf;clear hf;by_cases hlt:k<rs.length
  ·obtain⟨r,hr⟩:∃r,rs[k]?=some r:=⟨_,List.getElem?_eq_getElem hlt⟩
   obtain⟨c0,c1⟩:=(hca k r hr).kept hbw (Nat.le_refl _);have lb:=zac c0;have k1:(k:Int)<(rs.length:Int):=by omega
   have hsub:rs.length-k=(rs.length-(k+1))+1:=by omega
   rw[hsub] at HF;have hnb:=zji hr;have hss:=zjh hr;have hsz:=HM.out r (List.mem_of_getElem? hr);have hlk:∀o,(Instr.lookup 176 (.map (some (w.heap.size+1))) (.string r.name) false).run Tryz.prog (wr.alloc o)=.ok (.bool (seenL rs k r.name)) (wr.alloc o):=fun o=>(hse.alloc o).look r.name (by unfold maxLen;omega)
   have HP:=Lib.hid (fun w=>zux r.name w hsz);have HW:=Lib.hid hbw;have HSE:=Lib.hid hse;have hszw:=hbw.size;have HSS:=Lib.hid hss;clear hsub hca hr hbw hse hss;cases hsn:seenL rs k r.name with
   |true=>
    rw[hsn] at hlk hnb;have HR:=Lib.hid (HF.out.trans (zb3 hnb));clear hnb hsn
    go_wp2_with (first
     |(go_at_call 53;(with_reducible refine(zc6 _ _ _).mono ?_);rintro e w2 ⟨rfl,rfl⟩)
     |(go_at_call 51;(with_reducible refine(zcb _ _ _ _).mono ?_);rintro e w2 ⟨rfl,rfl⟩))
    go_ret;exact FirstIs.hit HR.out (by simp) (HW.out.alloc hszw _)
   |false=>
    rw[hsn,Bool.false_or] at hnb;rw[hsn] at hlk;cases hnm:nameB (bts r.name) with
    |false=>
     rw[hnm] at hnb HP;have HR:=Lib.hid (HF.out.trans (zb3 hnb));clear hnb hsn hnm
     go_wp2_with (first
      |(go_at_call 128;(with_reducible refine(HP.out _).mono ?_);rintro e w2 ⟨rfl,hw⟩;obtain rfl:=hw.symm;clear hw)
      |(go_at_call 53;(with_reducible refine(zc6 _ _ _).mono ?_);rintro e w2 ⟨rfl,rfl⟩)
      |(go_at_call 51;(with_reducible refine(zcb _ _ _ _).mono ?_);rintro e w2 ⟨rfl,rfl⟩))
     go_ret;exact FirstIs.hit HR.out (by simp) (HW.out.alloc hszw _)
    |true=>
     rw[hnm] at hnb HP;have HR:=Lib.hid (HF.out.trans (zdu hnb));obtain⟨D,hown,hmap,hat⟩:=HSE.out;have hkey:=WideMaps.keyOf_string_mk (P:=Tryz.prog) Tryz.underlying9 (s:=r.name) (by unfold maxLen;omega);have HAT:=Lib.hid hat;have HKEY:=Lib.hid hkey;have HMAP:=Lib.hid hmap;clear hnb hsn hnm hat hkey hmap
     go_wp2_with (first
      |(go_at_call 128;(with_reducible refine(HP.out _).mono ?_);rintro e w2 ⟨rfl,hw⟩;obtain rfl:=hw.symm;clear hw)
      |(at_mapUpdate;refine wpList_mapUpdate_own _ rfl _ _ _ 176 rfl 9 4 zk6 Tryz.underlying176 _ (w.heap.size+1) k D rfl (hown.alloc _) (by unfold maxLen;omega) _ _ _ rfl rfl HKEY.out _ [] (plainElem_bool Tryz.underlying4 true) ?_;intro w1 hown1 hgrow1))
     go_roundw
     case rel=>exact⟨k+1,by omega,by go_num,(HW.out.alloc hszw _).grown hgrow1 (by simp;omega) (fun j e=>by injection e with e;omega),SeenAt.put r.name hown1 HMAP.out HAT.out HSS.out,HR.out⟩
     case measure=>simp[intOf];omega
  ·obtain rfl:k=rs.length:=by omega
   have k1:¬(rs.length:Int)<(rs.length:Int):=by omega
   have HR:Hid (fbad (zbm rs) rs.length 0=none):=Lib.hid (by rw[HF.out,Nat.sub_self];rfl);have HW:=Lib.hid hbw;clear hbw hse;go_wp2;go_ret;exact FirstIs.nil HR.out HW.out
theorem zh7:∀(ks st st':List Int),popL ks st=some st'->st=ks++st'
 | [],st,st',h=>by cases h;rfl
 |k::ks,[],st',h=>by cases h
 |k::ks,x::st,st',h=>by
  have hd:popL (k::ks) (x::st)=if k=x then popL ks st else none:=rfl
  by_cases e:k=x
  ·rw[hd,if_pos e] at h;rw[e,zh7 ks st st' h];rfl
  ·rw[hd,if_neg e] at h;cases h
theorem zq3:∀(ks st':List Int),popL ks (ks++st')=some st'
 | [],_=>rfl
 |k::ks,st'=>by
  show(if k=k then popL ks (ks++st') else none)=_;rw[if_pos rfl,zq3 ks st']
theorem zef (l:List Int):(intsV l).length=l.length:=by unfold intsV;rw[List.length_map]
theorem zbb (l m:List Int):intsV (l++m)=intsV l++intsV m:=by unfold intsV;rw[List.map_append]
theorem zs1 (l:List Int)(k:Nat):intsV (l.take k)=(intsV l).take k:=by unfold intsV;rw[List.map_take]
theorem zcy {w:World}{base:Nat}{e:TypeId}{a:Option Addr}{n cap k:Nat}{xs:List Value}(h:w.ownsRow base e 1 (.slice a n cap) n xs)(hk:k<=n):w.ownsRow base e 1 (.slice a k cap) k (xs.take k):=by
 obtain⟨h1,h2⟩:=h;rcases h2 with⟨h0,h3⟩|⟨g',cap',cur,hv,hg,hh,hn,hcap,hsz,htake⟩
 ·injection h0 with e1 e2 e3
  subst e1 e2 e3;obtain rfl:k=0:=by omega
  exact⟨by simp,.inl ⟨rfl,rfl⟩⟩
 ·injection hv with e1 e2 e3
  subst e1 e3;refine⟨by rw[List.length_take];omega,.inr ⟨g',cap,cur,rfl,hg,hh,by omega,hcap,hsz,?_⟩⟩;rw[<-htake,List.take_take,Nat.mul_one,Nat.mul_one,Nat.min_eq_left hk]
theorem zbj {w:World}{base:Nat}{e:TypeId}{v:Value}{n:Nat}{xs:List Value}(h:w.ownsRow base e 1 v n xs):∃a cap,v=.slice a n cap/\n<=cap/\(n=0∨∃g,a=some ⟨g,0,none⟩)/\(a=none∨∃g,a=some ⟨g,0,none⟩):=by
 obtain⟨h1,h2⟩:=h;rcases h2 with⟨h0,h3⟩|⟨g',cap',cur,hv,hg,hh,hn,hcap,hsz,htake⟩
 ·subst h3;exact⟨none,0,h0,Nat.le_refl _,.inl rfl,.inl rfl⟩
 ·exact⟨_,cap',hv,hn,.inr ⟨g',rfl⟩,.inr ⟨g',rfl⟩⟩
theorem z0a {w:World}{base:Nat}{a a':Option Addr}{n cap f c k:Nat}{l:List Int}(h:w.ownsRow base 3 1 (.slice a n cap) n (intsV l))(hn:l.length=n)(hf:n=f+k)(ha:k=0∨∃g,a=some ⟨g,0,none⟩/\a'=some ⟨g,f,none⟩):IntsAt w (.slice a' k c) (l.drop f):=by
 have hl:(l.drop f).length=k:=by rw[List.length_drop];omega
 refine⟨a',c,by rw[hl],?_⟩;rcases ha with h0|⟨g,rfl,rfl⟩
 ·left;exact List.length_eq_zero_iff.1 (by omega)
 ·right
  refine⟨g,f,rfl,fun i x hx=>?_⟩;rw[List.getElem?_drop] at hx;have:=h.cells rfl (f+i) (.int .i64 x) (by unfold intsV;rw[List.getElem?_map,hx];rfl);rw[Addr.add_lit,Nat.zero_add] at this;exact this
theorem zk7 (w:World):(sizeOf (Tryz.prog.elem 29)).run Tryz.prog w=.ok 1 w:=by kernel_rfl
theorem zk8:Tryz.prog.underlying 29=some (.slice (Tryz.prog.elem 29)):=by kernel_rfl
theorem zvo (a:Option Addr)(n cap k:Nat)(hk:k<=cap)(ha:a=none∨∃g,a=some ⟨g,0,none⟩)(w:World):(Instr.slice 29 (.slice a n cap) none (some (.int .i64 (k:Int))) none).run Tryz.prog w=.ok (.slice a k cap) w:=by
 rw[run_slice_h w 29 a n cap zk8 .i64 (k:Int) (by omega) (by omega),zk7,Result.andThen_ok];unfold sliced;rcases ha with rfl|⟨g,rfl⟩
 ·simp
 ·simp[Addr.add]
theorem z0b (a:Option Addr)(n cap f k:Nat)(hn:n=f+k)(hk:n<=cap)(ha:k=0∨∃g,a=some ⟨g,0,none⟩):∃a',(∀w,(Instr.slice 29 (.slice a n cap) (some (.int .i64 (f:Int))) (some (.int .i64 (n:Int))) (some (.int .i64 (n:Int)))).run Tryz.prog w=.ok (.slice a' k k) w)/\(k=0∨∃g,a=some ⟨g,0,none⟩/\a'=some ⟨g,f,none⟩):=by
 rcases Nat.eq_zero_or_pos k with h0|h0
 ·refine⟨a,fun w=>?_,.inl h0⟩
  rw[run_slice_lhm w 29 a n cap zk8 .i64 .i64 .i64 (f:Int) (n:Int) (n:Int) (by omega) (by omega) (by omega) (by omega),zk7,Result.andThen_ok];unfold sliced;subst h0;rw[if_pos (by omega),show(n:Int).toNat-(f:Int).toNat=0 by omega]
 ·rcases ha with h|⟨g,rfl⟩
  ·omega
  ·refine⟨some ⟨g,f,none⟩,fun w=>?_,.inr ⟨g,rfl,rfl⟩⟩
   rw[run_slice_lhm w 29 _ n cap zk8 .i64 .i64 .i64 (f:Int) (n:Int) (n:Int) (by omega) (by omega) (by omega) (by omega),zk7,Result.andThen_ok];unfold sliced;rw[if_neg (by omega),show(n:Int).toNat-(f:Int).toNat=k by omega];simp[Addr.add];intro h;exact h.symm
def OrdIs (b:Bool)(w:World)(e:Ending)(w':World):Prop:=e=.returned (if b then .nilIface else .iface 81 (.int .i64 10))/\Below w.heap.size w w'
theorem OrdIs.yes {b:Bool}{w w':World}(h:b=true)(hb:Below w.heap.size w w'):OrdIs b w (.returned .nilIface) w':=by subst h;exact⟨rfl,hb⟩
theorem OrdIs.no {b:Bool}{w w':World}(h:b=false)(hb:Below w.heap.size w w'):OrdIs b w (.returned (.iface 81 (.int .i64 10))) w':=by subst h;exact⟨rfl,hb⟩
theorem zs2 (rv nv:Value)(rs:List PR)(ns:List PN)(w:World)(hR:RulesIn w rv rs)(hN:NodesAt w nv ns)(hs:ns.length<=1000000)(hsr:rs.length<=1000000) :
  Calls Tryz.prog 97 #[.agg #[rv,nv]] w (OrdIs (runO rs ns 0 [] 0) w):=by
 obtain⟨i0,hi0,hz0,hz1,hz2⟩:=info_parts za3;obtain⟨-,ra,rc,rfl,hra⟩:=hR;obtain⟨-,na,nc,rfl,hna⟩:=hN;have HO:=Lib.hid (zab w);go_enter Tryz.func97,Tryz.ntmps97;go_wp2
 go_loopw [3,4,11] (fun vs vr vc wr=>∃(i r:Nat) (st:List Int),i<=ns.length/\r<=rs.length/\vc=.int .i64 i/\vr=.int .i64 r/\st.length<=i/\runO rs ns 0 [] 0=runO rs (ns.drop i) i st r/\wr.ownsRow (w.heap.size+1) 3 1 vs st.length (intsV st.reverse)/\Below w.heap.size w wr/\w.heap.size<wr.heap.size/\wr.cell? ⟨w.heap.size,0,none⟩=some (.slice ra rs.length rc)/\wr.cell? ⟨w.heap.size,1,none⟩=some (.slice na ns.length nc)) (fun _ _ vc _=>ns.length-(intOf vc).toNat)
 case atStart=>exact⟨0,0,[],Nat.zero_le _,Nat.zero_le _,rfl,rfl,Nat.le_refl _,rfl,World.ownsRow_nil _ _ _ _,HO.out _,by simp,by simp,by simp⟩
 case round=>
  obtain⟨i,r,st,hi,hr,rfl,rfl,hst,ho,how,hbw,hsw,b0,b1⟩:=hrel;have HRO:=Lib.hid ho;clear ho;obtain⟨a,cap,rfl,hcap,ha1,ha2⟩:=zbj how;have HW:=Lib.hid hbw;have hszw:=hbw.size;by_cases hlt:i<ns.length
  ·obtain⟨n,hn⟩:∃n,ns[i]?=some n:=⟨_,List.getElem?_eq_getElem hlt⟩
   have hdr:ns.drop i=n::ns.drop (i+1):=by
    obtain⟨h1,h2⟩:=List.getElem?_eq_some_iff.1 hn;rw[List.drop_eq_getElem_cons h1,h2]
   rw[hdr] at HRO;rcases hna with h0|⟨nb,no,rfl,hca⟩
   ·rw[h0] at hlt;exact absurd hlt (Nat.not_lt_zero _)
   obtain⟨kv,c0,c1,c2,c3,c4,c5,c6,ci,cl⟩:=(hca i n hn).kept hbw (Nat.le_refl _);have CI:=Lib.hid ci;obtain⟨ka,kc,rfl,-⟩:=ci;have lb:=zac c0;have k1:(i:Int)<(ns.length:Int):=by omega
   unfold maxLen at cl;have HOW:=Lib.hid how;clear hdr hca hn hbw how;by_cases hkl:n.kids.length<=st.length
   ·obtain⟨f,hf⟩:∃f,st.length=f+n.kids.length:=⟨st.length-n.kids.length,by omega⟩
    obtain⟨a',hta,haa⟩:=z0b a st.length cap f n.kids.length hf hcap (ha1.imp (fun h=>by omega) id);have hcut:=zvo a st.length cap f (by omega) ha2;have df:decide ((f:Int)<0)=false:=decide_eq_false (by omega);have ef:(st.length:Int)-(n.kids.length:Int)=(f:Int):=by omega
    have hq:=fun(o:Obj) (q:Nat)=>zjc (.slice a' n.kids.length n.kids.length) (.slice ka n.kids.length kc) (st.reverse.drop f) n.kids ((wr.alloc o).drewN q) (by rw[List.length_drop,List.length_reverse];unfold maxLen;omega) (z0a (HOW.out.alloc o) (by rw[List.length_reverse]) hf haa) (CI.out.kept (zak (zab wr o)) (Nat.le_refl _))
    have HQ:=Lib.hid hq;have HF:=Lib.hid hf;clear hq haa hf;cases hp:popL n.kids.reverse st with
    |none=>
     have HD:Hid (decide (st.reverse.drop f=n.kids)=false):=decN (fun e=>by
      have h1:=List.take_append_drop f st.reverse;rw[e] at h1;have h2:=congrArg List.reverse h1;rw[List.reverse_append,List.reverse_reverse] at h2;rw[<-h2,zq3] at hp;cases hp)
     rw[HD.out] at HQ;have HR:Hid (runO rs ns 0 [] 0=false):=Lib.hid (by rw[HRO.out,zeb (zgf hp)]);clear hp;go_wp2;go_quiet ((go_at_call 10;exact Calls.quiet_of (HQ.out _ _)));go_wp2;go_ret;exact OrdIs.no HR.out (zak (HW.out.alloc hszw _))
    |some st'=>
     have hst2:=zh7 _ _ _ hp;have hf2:st'.length=f:=by
      have h1:=congrArg List.length hst2;rw[List.length_append,List.length_reverse,HF.out] at h1;omega
     have hrv:st.reverse=st'.reverse++n.kids:=by rw[hst2,List.reverse_append,List.reverse_reverse]
     have HD:Hid (decide (st.reverse.drop f=n.kids)=true):=decY (by
      rw[hrv,List.drop_append_of_le_length (by rw[List.length_reverse];omega),List.drop_of_length_le (by rw[List.length_reverse];omega)];rfl)
     rw[HD.out] at HQ;have HC:Hid (wr.ownsRow (w.heap.size+1) 3 1 (.slice a f cap) f (intsV st'.reverse)):=Lib.hid (by
      have h1:=zcy (k:=f) HOW.out (by have:=HF.out;omega);rw[<-zs1,hrv,List.take_append_of_le_length (by rw[List.length_reverse];omega),List.take_of_length_le (by rw[List.length_reverse];omega)] at h1;exact h1)
     have HP:=Lib.hid hp;have HF2:=Lib.hid hf2;have hfi:f<=i:=by omega
     clear hp hst2 hrv hf2;go_wp2;go_quiet ((go_at_call 10;exact Calls.quiet_of (HQ.out _ _)));obtain⟨W2,hW2⟩:∃W2,((wr.alloc (.cells #[.int .i64 n.op,.slice ka n.kids.length kc,.int .i64 n.rule,.int .u64 n.s0,.int .u64 n.s1,.int .u64 n.s2,.int .u64 n.s3] 51)).drewN nq)=W2:=⟨_,rfl⟩;have hb2:Below wr.heap.size wr W2:=by rw[<-hW2];exact zak (zab wr _)
     rw[hW2];have HC2:=Lib.hid (zaa HC.out hb2);have HW2:=Lib.hid (HW.out.trans (hb2.mono hszw));have b0':=(bcell hb2).1 _ 0 hsw;have b1':=(bcell hb2).1 _ 1 hsw;rw[b0] at b0';rw[b1] at b1';have hsw2:=Nat.lt_of_lt_of_le hsw hb2.size;clear hW2 hb2 b0 b1 c0 c1 c2 c3 c4 c5 c6 hta
     go_upto_region 10 with(at_builtin;refine wpList_append_own _ rfl _ _ 29 rfl (w.heap.size+1) 3 i0 (.int .i64 0) 1 8 Tryz.underlying29 hi0 hz0 hz1 hz2 rfl (by decide) _ _ _ rfl (HC2.out.alloc _) ⟨W2.heap.size,0,none⟩ 1 1 [.int .i64 (i:Int)] rfl rfl (zaq W2 _ _) (ints_oneCell .i64 [(i:Int)]) (by unfold maxLen;omega) (by omega) (by simp;omega) ?_;intro v' w1 hown' hgrow _)
     have hne:some w.heap.size≠(Value.slice a f cap).ownBlock:=fun e=>by have:=(HC2.out.lt _ e.symm).1;omega
     have hbw1:Below w.heap.size w w1:=(HW2.out.alloc (Nat.le_of_lt hsw2) _).grown hgrow (by simp;omega) (fun k e=>by have:=(HC2.out.lt _ e).1;omega);have b0w:w1.cell? ⟨w.heap.size,0,none⟩=some (.slice ra rs.length rc):=hgrow.cell (a:=⟨w.heap.size,0,none⟩) (by rw[((bcell (zab W2 _)).1 _ 0 hsw2)];exact b0') hne;have b1w:w1.cell? ⟨w.heap.size,1,none⟩=some (.slice (some ⟨nb,no,none⟩) ns.length nc):=hgrow.cell (a:=⟨w.heap.size,1,none⟩) (by rw[((bcell (zab W2 _)).1 _ 1 hsw2)];exact b1') hne;have hsw1:w.heap.size<w1.heap.size:=Nat.lt_of_lt_of_le (by simp;omega) hgrow.size;have hrv2:intsV st'.reverse++[.int .i64 (i:Int)]=intsV ((i:Int)::st').reverse:=by rw[List.reverse_cons,zbb];rfl
     rw[hrv2] at hown';have HOW1:=Lib.hid hown';have HW1:=Lib.hid hbw1;obtain⟨a2,cap2,rfl,hcap2,ha3,ha4⟩:=zbj hown';clear hcut hne hbw1 b0' b1' hrv2 hown' hgrow HC2 HW2 HC HOW hcap ha1 ha2;cases hrx:rs[r]? with
     |none=>
      have hrl:r=rs.length:=by
       have:=List.getElem?_eq_none_iff.1 hrx;omega
      have HS:=Lib.hid (zdi (ns:=ns.drop (i+1)) (zmi (i:=(i:Int)) HP.out hrx));have k2:¬(r:Int)<(rs.length:Int):=by omega
      clear hrx;go_wp2;go_roundw
      case rel=>exact⟨i+1,r,(i:Int)::st',by omega,hr,by go_num,rfl,by have:=HF2.out;simp;omega,by rw[HRO.out,HS.out];rfl,by rw[List.length_cons,HF2.out];exact HOW1.out,HW1.out,hsw1,b0w,b1w⟩
      case measure=>simp[intOf];omega
     |some x=>
      have hrl:=(List.getElem?_eq_some_iff.1 hrx).1;rcases hra with h0|⟨rb,ro,rfl,hca⟩
      ·rw[h0] at hrl;exact absurd hrl (Nat.not_lt_zero _)
      obtain⟨d0,d1⟩:=(hca r x hrx).kept HW1.out (Nat.le_refl _);have k2:(r:Int)<(rs.length:Int):=by omega
      by_cases hxi:x.root=i
      ·have q1:(x.root == (i:Int))=true:=by rw[hxi];simp
       cases st' with
       |nil=>
        have hf0:f=0:=HF2.out.symm;subst hf0;have HS:=Lib.hid (zdi (ns:=ns.drop (i+1)) (zi4 HP.out hrx hxi));have hcut0:=zvo a2 (0+1) cap2 0 (Nat.zero_le _) ha4;have HOW0:=Lib.hid (zcy (k:=0) HOW1.out (Nat.zero_le _));clear hrx hxi hca d0;go_wp2;go_roundw
        case rel=>exact⟨i+1,r+1,[],by omega,by omega,by go_num,by go_num,Nat.zero_le _,by rw[HRO.out,HS.out];rfl,HOW0.out,HW1.out,hsw1,b0w,b1w⟩
        case measure=>simp[intOf];omega
       |cons y st''=>
        have hf1:1<=f:=by have:=HF2.out;simp at this;omega
        have HS:=Lib.hid (zeb (ns:=ns.drop (i+1)) (zi5 HP.out hrx hxi));have HFN:Hid (runO rs ns 0 [] 0=false):=Lib.hid (by rw[HRO.out,HS.out]);have k3:(1:Int)<((f+1:Nat):Int):=by omega
        have k4:1<f+1:=by omega
        have k5:0<f:=by omega
        clear hrx hxi hca d0;go_wp2;go_ret;exact OrdIs.no HFN.out HW1.out
      ·have q1:(x.root == (i:Int))=false:=zaj hxi
       have HS:=Lib.hid (zdi (ns:=ns.drop (i+1)) (zqk HP.out hrx hxi));clear hrx hxi hca d0;go_wp2;go_roundw
       case rel=>exact⟨i+1,r,(i:Int)::st',by omega,hr,by go_num,rfl,by have:=HF2.out;simp;omega,by rw[HRO.out,HS.out];rfl,by rw[List.length_cons,HF2.out];exact HOW1.out,HW1.out,hsw1,b0w,b1w⟩
       case measure=>simp[intOf];omega
   ·have hp:popL n.kids.reverse st=none:=by
     cases hp:popL n.kids.reverse st with
     |none=>rfl
     |some st'=>
      have h1:=congrArg List.length (zh7 _ _ _ hp);rw[List.length_append,List.length_reverse] at h1;omega
    have HR:Hid (runO rs ns 0 [] 0=false):=Lib.hid (by rw[HRO.out,zeb (zgf hp)]);obtain⟨z,hz⟩:∃z:Int,(st.length:Int)-(n.kids.length:Int)=z:=⟨_,rfl⟩;have df:decide (z<0)=true:=decide_eq_true (by omega);clear hp;go_wp2;go_quiet (fail);go_wp2;go_ret;exact OrdIs.no HR.out (zak (HW.out.alloc hszw _))
  ·obtain rfl:i=ns.length:=by omega
   have k1:¬(ns.length:Int)<(ns.length:Int):=by omega
   have HE:Hid (runO rs ns 0 [] 0=(st.isEmpty&&decide (rs.length<=r))):=Lib.hid (by rw[HRO.out,List.drop_length];rfl);clear how hbw;cases st with
   |nil=>
    by_cases hrl:r<rs.length
    ·have k2:(r:Int)<(rs.length:Int):=by omega
     have HF:Hid (runO rs ns 0 [] 0=false):=Lib.hid (by rw[HE.out,decide_eq_false (by omega)];rfl);go_wp2;go_ret;exact OrdIs.no HF.out HW.out
    ·have k2:¬(r:Int)<(rs.length:Int):=by omega
     have HF:Hid (runO rs ns 0 [] 0=true):=Lib.hid (by rw[HE.out,decide_eq_true (by omega)];rfl);go_wp2;go_ret;exact OrdIs.yes HF.out HW.out
   |cons x st=>
    have HF:Hid (runO rs ns 0 [] 0=false):=Lib.hid (by rw[HE.out];rfl);obtain⟨m,hm⟩:∃m,(x::st).length=m:=⟨_,rfl⟩;have k2:(0:Int)<(m:Int):=by rw[<-hm];simp
    have k3:0<m:=by omega
    rw[hm] at *;clear hm;go_wp2;go_ret;exact OrdIs.no HF.out HW.out
end Go.Proofs.YthhppmehhdlmnaaGreatDoor
