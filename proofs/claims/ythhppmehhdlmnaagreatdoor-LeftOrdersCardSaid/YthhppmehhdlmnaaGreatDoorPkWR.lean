/- The reference's holds. slices.Equal of bools; the reference's Of and Needs. wf.Check. -/
import Derived.Test.YthhppmehhdlmnaaGreatDoorPkFM
import Derived.Test.YthhppmehhdlmnaaGreatDoorPkWN
import Derived.Test.YthhppmehhdlmnaaGreatDoorPkWD
import Derived.Test.YthhppmehhdlmnaaGreatDoorPkFlowROf
set_option maxRecDepth 100000
set_option maxHeartbeats 8000000
namespace Go.Proofs.YthhppmehhdlmnaaGreatDoor
open Go.RowKit
def okF (l:List Bool)(k:Int):Bool:=l.getD k.toNat false
theorem zy8 {l:List Bool}{i:Nat}{b:Bool}(h:l[i]?=some b):okF l (i:Int)=b:=by
 unfold okF;rw[List.getD_eq_getElem?_getD,show((i:Int)).toNat=i by omega,h];rfl
def holdB (rs:List PR)(L:List Fc)(l:List Bool)(n:PN):Bool:=(needN rs L n).all (okF l) && !loopN L n
theorem zt2 {rs:List PR}{L:List Fc}{l:List Bool}{n:PN}(h:n.op=2):holdB rs L l n=okF l (rootF rs n.rule):=by
 unfold holdB needN loopN;rw[if_pos h,decide_eq_false (by omega)];simp
theorem zy9 {rs:List PR}{L:List Fc}{l:List Bool}{n:PN}(h:n.op=3):holdB rs L l n=(seqNd L n.kids).all (okF l):=by
 unfold holdB needN loopN;rw[if_neg (by omega),if_pos h,decide_eq_false (by omega)];simp
theorem zt3 {rs:List PR}{L:List Fc}{l:List Bool}{n:PN}(h2:n.op≠2)(h3:n.op≠3):holdB rs L l n=(n.kids.all (okF l) && !loopN L n):=by
 unfold holdB needN;rw[if_neg h2,if_neg h3]
section
variable {rs:List PR} {ns:List PN} {L:List Fc} {l:List Bool} {n:PN} {i:Nat} {w:World} {rv nv fv ov:Value}
theorem z4b (hI:NodeIn rs ns.length n)(hl:l.length=ns.length)(hF:L.length=ns.length){k:Nat}{x:Int}(hx:n.kids[k]?=some x):∃j b f,x=((j:Nat):Int)/\l[j]?=some b/\okF l x=b/\L[j]?=some f/\atF L x=f/\j<ns.length:=by
 obtain⟨h0,h1⟩:=hI.kid x (List.mem_of_getElem? hx);obtain⟨j,rfl⟩:∃j:Nat,x=j:=⟨x.toNat,by omega⟩;have hj:l[j]?=some l[j]:=List.getElem?_eq_getElem (by omega);have hf:L[j]?=some L[j]:=List.getElem?_eq_getElem (by omega);exact⟨j,_,_,rfl,hj,zy8 hj,hf,za6 hf,by omega⟩
theorem zza (hR:RulesIn w rv rs)(hN:NodesAt w nv ns)(hO:BoolsAt w ov l)(hl:l.length=ns.length)(hn:ns[i]?=some n)(hI:NodeIn rs ns.length n)(e2:n.op=2) :
  Calls Tryz.prog 117 #[.agg #[rv,nv],fv,ov,.int .i64 (i:Int)] w fun e w'=>e=.returned (.bool (holdB rs L l n))/\Below w.heap.size w w':=by
 obtain⟨r,x,hr,hx,h0,h1⟩:=hI.root e2;obtain⟨j,hj⟩:∃j:Nat,x.root=j:=⟨x.root.toNat,by omega⟩;have hob:l[j]?=some l[j]:=List.getElem?_eq_getElem (by omega);have HB:=Lib.hid (show holdB rs L l n=l[j] by rw[zt2 e2,hr,zcn hx,hj,zy8 hob]);have hil:=(List.getElem?_eq_some_iff.1 hn).1;obtain⟨-,na,nc,rfl,hna⟩:=hN;rcases hna with h0|⟨nb,no,rfl,hca⟩
 ·rw[h0] at hil;exact absurd hil (Nat.not_lt_zero _)
 obtain⟨kv,c0,c1,c2,c3,c4,c5,c6,hki,-⟩:=hca i n hn;have ln:=zac c0;obtain⟨ka,kc,rfl,-⟩:=hki;obtain⟨-,ra,rc,rfl,hra⟩:=hR;have hrl:=(List.getElem?_eq_some_iff.1 hx).1;rcases hra with h|⟨rb,ro,rfl,hcr⟩
 ·rw[h] at hrl;exact absurd hrl (Nat.not_lt_zero _)
 obtain⟨r0,r1⟩:=hcr r x hx;have lr:=zac r0;obtain⟨oa,oc,rfl,-⟩:=id hO;obtain⟨ob,oo,rfl,o0⟩:=hO.cell hob;have lo:=zac o0;generalize l[j]=b at *;rw[e2] at c0;rw[hr] at c2;rw[hj] at r1;have k1:(i:Int)<(ns.length:Int):=by omega
 have k2:(r:Int)<(rs.length:Int):=by omega
 have k3:(j:Int)<(l.length:Int):=by omega
 clear hO hI hca hcr hx hn hob;go_enter Tryz.func117,Tryz.ntmps117;go_wp2;go_ret;exact⟨zaf HB.out.symm,zat _ _ _⟩
def HeldK (L:List Fc)(l:List Bool)(ks:List Int)(k:Nat):Prop:=∀(j:Nat) (x:Int),j<k->ks[j]?=some x->(∀m,m<j->∀y,ks[m]?=some y->(atF L y).nul=true)->okF l x=true
def nulsB (L:List Fc)(ks:List Int)(m:Nat):Bool:=(ks.take m).all fun y=>(atF L y).nul
theorem zt4 (L:List Fc)(ks:List Int):nulsB L ks 0=true:=by unfold nulsB;simp
theorem zt5 {L:List Fc}{ks:List Int}{m:Nat}{x:Int}(h:ks[m]?=some x):nulsB L ks (m+1)=(nulsB L ks m&&(atF L x).nul):=by
 unfold nulsB;rw[List.take_add_one,h,List.all_append];simp
theorem zn7 {L:List Fc}{ks:List Int}{k:Nat}:nulsB L ks k=true↔∀m,m<k->∀y,ks[m]?=some y->(atF L y).nul=true:=by
 unfold nulsB;rw[List.all_eq_true];constructor
 ·intro h m hm y hy
  exact h y (List.mem_of_getElem? (i:=m) (by rw[List.getElem?_take,if_pos hm];exact hy))
 ·intro h y hy
  obtain⟨m,hm⟩:=List.getElem?_of_mem hy;rw[List.getElem?_take] at hm;split at hm
  ·exact h m (by assumption) y hm
  ·cases hm
theorem z29 (hN:NodesAt w nv ns)(hF:FactsAt w fv L)(hFl:L.length=ns.length)(hO:BoolsAt w ov l)(hl:l.length=ns.length)(hn:ns[i]?=some n)(hI:NodeIn rs ns.length n)(hk6:n.kids.length<=1000000)(e3:n.op=3)(hrv:∃ra rc,rv=.slice ra rs.length rc) :
  Calls Tryz.prog 117 #[.agg #[rv,nv],fv,ov,.int .i64 (i:Int)] w fun e w'=>e=.returned (.bool (holdB rs L l n))/\Below w.heap.size w w':=by
 have HBS:=Lib.hid (zy9 (rs:=rs) (L:=L) (l:=l) e3);have HKO:=Lib.hid (fun(k:Nat) (x:Int) (hx:n.kids[k]?=some x)=>z4b hI hl hFl hx);have hil:=(List.getElem?_eq_some_iff.1 hn).1;obtain⟨-,na,nc,rfl,hna⟩:=hN;rcases hna with h0|⟨nb,no,rfl,hca⟩
 ·rw[h0] at hil;exact absurd hil (Nat.not_lt_zero _)
 obtain⟨kv,c0,c1,c2,c3,c4,c5,c6,hki,-⟩:=hca i n hn;have ln:=zac c0;obtain⟨ka,kc,rfl,-⟩:=id hki;obtain⟨ra,rc,rfl⟩:=hrv;obtain⟨oa,oc,rfl,-⟩:=id hO;obtain⟨fa,fc,rfl⟩:=hF.slice;rw[e3] at c0;have k1:(i:Int)<(ns.length:Int):=by omega
 have htwo:=Lib.hid (zat w (.cells #[.slice ra rs.length rc,.slice (some ⟨nb,no,none⟩) ns.length nc] 25) (.cells #[.int .i64 3,.slice ka n.kids.length kc,.int .i64 n.rule,.int .u64 n.s0,.int .u64 n.s1,.int .u64 n.s2,.int .u64 n.s3] 51));have HK:=Lib.hid (fun(k:Nat) (x:Int) (hx:n.kids[k]?=some x)=>hki.cell hx);have HOC:=Lib.hid (fun(j:Nat) (b:Bool) (hx:l[j]?=some b)=>hO.cell hx);have HFC:=Lib.hid (fun(j:Nat) (f:Fc) (hx:L[j]?=some f)=>hF.at hx);have HLL:=Lib.hid (show l.length=L.length by omega);clear hI hca hO hF hn hki e3;go_enter Tryz.func117,Tryz.ntmps117;go_wp2;generalize hW:World.alloc (World.alloc _ _) _=W at *;have hm1:W.cell? ⟨w.heap.size+1,1,none⟩=some (.slice ka n.kids.length kc):=by rw[<-hW];exact Bl.cell (o:=1) (Bl.new' (by simp)) rfl
 have lm:w.heap.size+1<W.heap.size:=by rw[<-hW];simp
 clear hW
 go_loopw [10] (fun d wr=>∃k:Nat,k<=n.kids.length/\d=.int .i64 (k:Int)/\wr=W/\HeldK L l n.kids k) (fun d _=>n.kids.length-(intOf d).toNat)
 case atStart=>exact⟨0,Nat.zero_le _,by first|rfl|trivial,by first|rfl|trivial,fun j x h=>absurd h (Nat.not_lt_zero _)⟩
 case round=>
  obtain⟨k,hk,rfl,hwr,hh⟩:=hrel;obtain rfl:=hwr.symm;have HH:=Lib.hid hh;clear hh;by_cases hlt:k<n.kids.length
  ·have k2:(k:Int)<(n.kids.length:Int):=by omega
   go_wp2
   go_loopw [11,12] (fun v d wr=>∃m:Nat,m<=k/\d=.int .i64 (m:Int)/\v=.bool (nulsB L n.kids m)/\wr=W) (fun _ d _=>k-(intOf d).toNat)
   case atStart=>exact⟨0,Nat.zero_le _,by first|rfl|trivial,by rw[zt4],by first|rfl|trivial⟩
   case round=>
    obtain⟨m,hm,rfl,rfl,hwr⟩:=hrel;obtain rfl:=hwr.symm;by_cases hmk:m<k
    ·have m1:(m:Int)<(k:Int):=by omega
     have m2:(m:Int)<(n.kids.length:Int):=by omega
     obtain⟨x,hx⟩:∃x,n.kids[m]?=some x:=⟨_,List.getElem?_eq_getElem (by omega)⟩;have HS:=Lib.hid (zt5 (L:=L) hx);obtain⟨j,b,f,rfl,hb,hob,hf,haf,hj⟩:=HKO.out m x hx;obtain⟨kb,ko,rfl,kx⟩:=HK.out m _ hx;obtain⟨fb,fo,rfl,f0,-,-⟩:=HFC.out j f hf;have lk:=zac kx;have lf:=zac f0;rw[<-(bcell htwo.out).1 _ _ lk] at kx;rw[<-(bcell htwo.out).1 _ _ lf] at f0;have lk2:=zac kx;have lf2:=zac f0;have j1:(j:Int)<(L.length:Int):=by omega
     have HAF:=Lib.hid haf;clear hx hob hb hf haf;cases hnb:nulsB L n.kids m with
     |false=>
      go_wp2;go_roundw
      case rel=>exact⟨m+1,by omega,by go_num,by rw[HS.out,hnb];rfl,by first|rfl|trivial⟩
      case measure=>simp[intOf];omega
     |true=>
      go_wp2;go_roundw
      case rel=>exact⟨m+1,by omega,by go_num,by rw[HS.out,hnb,HAF.out];rfl,by first|rfl|trivial⟩
      case measure=>simp[intOf];omega
    ·obtain rfl:m=k:=by omega
     have m1:¬(m:Int)<(m:Int):=by omega
     obtain⟨x,hx⟩:∃x,n.kids[m]?=some x:=⟨_,List.getElem?_eq_getElem hlt⟩;obtain⟨j,b,f,rfl,hb,hob,hf,haf,hj⟩:=HKO.out m x hx;obtain⟨kb,ko,rfl,kx⟩:=HK.out m _ hx;obtain⟨ob,oo,rfl,o0⟩:=HOC.out j b hb;have lk:=zac kx;have lo:=zac o0;rw[<-(bcell htwo.out).1 _ _ lk] at kx;rw[<-(bcell htwo.out).1 _ _ lo] at o0;have lk2:=zac kx;have lo2:=zac o0;have j1:(j:Int)<(l.length:Int):=by omega
     have HX:=Lib.hid hx;have HOB:=Lib.hid hob;clear hx hob hb hf haf;cases hnb:nulsB L n.kids m with
     |false=>
      go_wp2;refine⟨⟨m+1,by omega,by first|go_num|omega,fun j' x' h1 h2 h3=>?_⟩,by simp[intOf];omega⟩;by_cases e:j'=m
      ·subst e
       rw[zn7.2 h3] at hnb;cases hnb
      ·exact HH.out j' x' (by omega) h2 h3
     |true=>
      cases hbb:b with
      |true=>
       rw[hbb] at o0;go_wp2;refine⟨⟨m+1,by omega,by first|go_num|omega,fun j' x' h1 h2 h3=>?_⟩,by simp[intOf];omega⟩;by_cases e:j'=m
       ·subst e
        have h4:=HX.out;rw[h2] at h4;rw[Option.some.inj h4,HOB.out,hbb]
       ·exact HH.out j' x' (by omega) h2 h3
      |false=>
       rw[hbb] at o0;go_wp2;go_ret;refine⟨zaf ?_,htwo.out⟩;rw[HBS.out];cases ha:(seqNd L n.kids).all (okF l) with
       |false=>rfl
       |true=>
        rw[List.all_eq_true] at ha;have:=(zld L n.kids (okF l)).1 ha m _ HX.out (zn7.1 hnb);rw[HOB.out,hbb] at this;cases this
  ·obtain rfl:k=n.kids.length:=by omega
   have k2:¬(n.kids.length:Int)<(n.kids.length:Int):=by omega
   go_wp2;go_ret;refine⟨zaf ?_,htwo.out⟩;rw[HBS.out,eq_comm,List.all_eq_true];exact(zld L n.kids (okF l)).2 fun j x hx hb=>HH.out j x (List.getElem?_eq_some_iff.1 hx).1 hx hb
theorem zzb (hN:NodesAt w nv ns)(hF:FactsAt w fv L)(hFl:L.length=ns.length)(hO:BoolsAt w ov l)(hl:l.length=ns.length)(hn:ns[i]?=some n)(hI:NodeIn rs ns.length n)(hk6:n.kids.length<=1000000)(e2:n.op≠2)(e3:n.op≠3)(hrv:∃ra rc,rv=.slice ra rs.length rc) :
  Calls Tryz.prog 117 #[.agg #[rv,nv],fv,ov,.int .i64 (i:Int)] w fun e w'=>e=.returned (.bool (holdB rs L l n))/\Below w.heap.size w w':=by
 have HBS:=Lib.hid (zt3 (rs:=rs) (L:=L) (l:=l) e2 e3);have HKO:=Lib.hid (fun(k:Nat) (x:Int) (hx:n.kids[k]?=some x)=>z4b hI hl hFl hx);have hil:=(List.getElem?_eq_some_iff.1 hn).1;have H5:=Lib.hid hI.ok.one;obtain⟨-,na,nc,rfl,hna⟩:=hN;rcases hna with h0|⟨nb,no,rfl,hca⟩
 ·rw[h0] at hil;exact absurd hil (Nat.not_lt_zero _)
 obtain⟨kv,c0,c1,c2,c3,c4,c5,c6,hki,-⟩:=hca i n hn;have ln:=zac c0;obtain⟨ka,kc,rfl,-⟩:=id hki;obtain⟨ra,rc,rfl⟩:=hrv;obtain⟨oa,oc,rfl,-⟩:=id hO;obtain⟨fa,fc,rfl⟩:=hF.slice;have q2:(n.op == 2)=false:=zaj e2;have q3:(n.op == 3)=false:=zaj e3;have k1:(i:Int)<(ns.length:Int):=by omega
 have htwo:=Lib.hid (zat w (.cells #[.slice ra rs.length rc,.slice (some ⟨nb,no,none⟩) ns.length nc] 25) (.cells #[.int .i64 n.op,.slice ka n.kids.length kc,.int .i64 n.rule,.int .u64 n.s0,.int .u64 n.s1,.int .u64 n.s2,.int .u64 n.s3] 51));have HK:=Lib.hid (fun(k:Nat) (x:Int) (hx:n.kids[k]?=some x)=>hki.cell hx);have HOC:=Lib.hid (fun(j:Nat) (b:Bool) (hx:l[j]?=some b)=>hO.cell hx);have HFC:=Lib.hid (fun(j:Nat) (f:Fc) (hx:L[j]?=some f)=>hF.at hx);have HLL:=Lib.hid (show l.length=L.length by omega);clear hI hca hO hF hn hki e2 e3;go_enter Tryz.func117,Tryz.ntmps117;go_wp2;generalize hW:World.alloc (World.alloc _ _) _=W at *;have hm0:W.cell? ⟨w.heap.size+1,0,none⟩=some (.int .i64 n.op):=by rw[<-hW];exact Bl.cell (o:=0) (Bl.new' (by simp)) rfl
 have hm1:W.cell? ⟨w.heap.size+1,1,none⟩=some (.slice ka n.kids.length kc):=by rw[<-hW];exact Bl.cell (o:=1) (Bl.new' (by simp)) rfl
 have lm:w.heap.size+1<W.heap.size:=by rw[<-hW];simp
 clear hW
 go_loopw [13] (fun d wr=>∃k:Nat,k<=n.kids.length/\d=.int .i64 (k:Int)/\wr=W/\∀x,x ∈ n.kids.take k->okF l x=true) (fun d _=>n.kids.length-(intOf d).toNat)
 case atStart=>exact⟨0,Nat.zero_le _,by first|rfl|trivial,by first|rfl|trivial,fun x h=>by simp at h⟩
 case round=>
  obtain⟨k,hk,rfl,hwr,hh⟩:=hrel;obtain rfl:=hwr.symm;have HH:=Lib.hid hh;clear hh;by_cases hlt:k<n.kids.length
  ·have k2:(k:Int)<(n.kids.length:Int):=by omega
   obtain⟨x,hx⟩:∃x,n.kids[k]?=some x:=⟨_,List.getElem?_eq_getElem hlt⟩;obtain⟨j,b,f,rfl,hb,hob,hf,haf,hj⟩:=HKO.out k x hx;obtain⟨kb,ko,rfl,kx⟩:=HK.out k _ hx;obtain⟨ob,oo,rfl,o0⟩:=HOC.out j b hb;have lk:=zac kx;have lo:=zac o0;rw[<-(bcell htwo.out).1 _ _ lk] at kx;rw[<-(bcell htwo.out).1 _ _ lo] at o0;have lk2:=zac kx;have lo2:=zac o0;have j1:(j:Int)<(l.length:Int):=by omega
   have HX:=Lib.hid hx;have HOB:=Lib.hid hob;clear hx hob hb hf haf;cases hbb:b with
   |true=>
    rw[hbb] at o0;go_wp2;go_roundw
    case rel=>
     refine⟨k+1,by omega,by go_num,by first|rfl|trivial,fun y hy=>?_⟩;rw[List.take_add_one,HX.out,List.mem_append] at hy;rcases hy with hy|hy
     ·exact HH.out y hy
     ·obtain rfl:y=(j:Int):=by simpa using hy
      rw[HOB.out,hbb]
    case measure=>simp[intOf];omega
   |false=>
    rw[hbb] at o0;go_wp2;go_ret;refine⟨zaf ?_,htwo.out⟩;rw[HBS.out];cases ha:n.kids.all (okF l) with
    |false=>rfl
    |true=>
     rw[List.all_eq_true] at ha;have:=ha _ (List.mem_of_getElem? HX.out);rw[HOB.out,hbb] at this;cases this
  ·obtain rfl:k=n.kids.length:=by omega
   have k2:¬(n.kids.length:Int)<(n.kids.length:Int):=by omega
   rw[List.take_length] at HH;have HA:Hid (n.kids.all (okF l)=true):=Lib.hid (List.all_eq_true.2 HH.out);by_cases e56:n.op=5∨n.op=6
   ·obtain⟨x,hx⟩:=H5.out (by omega)
    have hx0:n.kids[0]?=some x:=by rw[hx];rfl
    obtain⟨j,b,f,rfl,hb,hob,hf,haf,hj⟩:=HKO.out 0 x hx0;obtain⟨kb,ko,rfl,kx⟩:=HK.out 0 _ hx0;obtain⟨fb,fo,rfl,f0,-,-⟩:=HFC.out j f hf;have lk:=zac kx;have lf:=zac f0;rw[<-(bcell htwo.out).1 _ _ lk] at kx;rw[<-(bcell htwo.out).1 _ _ lf] at f0;have lk2:=zac kx;have lf2:=zac f0;rw[Nat.add_zero] at kx;have j1:(j:Int)<(L.length:Int):=by omega
    have k3:(0:Int)<(n.kids.length:Int):=by rw[hx];simp
    have HL5:Hid (loopN L n=f.nul):=Lib.hid (by unfold loopN;rw[hx,decide_eq_true e56];show(true&&(atF L (j:Int)).nul)=_;rw[haf];rfl);clear hob hb hf haf hx0 hx;rcases e56 with e|e<;>rw[e] at hm0
    all_goals
     go_wp2;go_ret;refine⟨zaf ?_,htwo.out⟩;rw[HBS.out,HA.out,HL5.out];rfl
   ·have q5:(n.op == 5)=false:=zaj (by omega)
    have q6:(n.op == 6)=false:=zaj (by omega);have p5:(n.op != 5)=true:=by rw[bne,q5];rfl
    have p6:(n.op != 6)=true:=by rw[bne,q6];rfl
    have HL5:Hid (loopN L n=false):=Lib.hid (by unfold loopN;rw[decide_eq_false e56];rfl);go_wp2;go_ret;refine⟨zaf ?_,htwo.out⟩;rw[HBS.out,HA.out,HL5.out];rfl
end
def zkm (l:List Bool):List Value:=l.map .bool
theorem BoolsAt.of_own {w:World}{base:Nat}{v:Value}{l:List Bool}(h:w.ownsRow base 4 1 v l.length (zkm l)):BoolsAt w v l:=by
 have h':=h;rcases h.2 with⟨rfl,h0⟩|⟨g,cap,cur,rfl,-⟩
 ·exact⟨none,0,by rw[h0],.inl (List.length_eq_zero_iff.1 h0)⟩
 ·refine⟨_,cap,rfl,.inr ⟨g,0,rfl,fun i x hx=>?_⟩⟩
  have:=h'.cells rfl i (.bool x) (by unfold zkm;rw[List.getElem?_map,hx];rfl);rw[Addr.add_lit] at this;exact this
theorem zt6 (rv nv fv ov:Value)(rs:List PR)(ns:List PN)(L:List Fc)(l:List Bool)(i:Nat)(n:PN)(w:World)(hR:RulesIn w rv rs)(hN:NodesAt w nv ns)(hF:FactsAt w fv L)(hFl:L.length=ns.length)(hO:BoolsAt w ov l)(hl:l.length=ns.length)(hn:ns[i]?=some n)(hI:NodeIn rs ns.length n)(hk:n.kids.length<=1000000) :
  Calls Tryz.prog 117 #[.agg #[rv,nv],fv,ov,.int .i64 (i:Int)] w fun e w'=>e=.returned (.bool (holdB rs L l n))/\Below w.heap.size w w':=by
 have hrv:∃ra rc,rv=.slice ra rs.length rc:=by obtain⟨-,ra,rc,h,-⟩:=hR;exact⟨ra,rc,h⟩
 by_cases e2:n.op=2
 ·exact zza hR hN hO hl hn hI e2
 ·by_cases e3:n.op=3
  ·exact z29 hN hF hFl hO hl hn hI hk e3 hrv
  ·exact zzb hN hF hFl hO hl hn hI hk e2 e3 hrv
def mkL (rs:List PR)(ns:List PN)(k:Nat):List Bool:=(List.range ns.length).map fun i=>itG (needW rs ns (lfp rs ns)) (loopW ns (lfp rs ns)) k i
theorem zix (rs:List PR)(ns:List PN)(k:Nat):(mkL rs ns k).length=ns.length:=by unfold mkL;rw[List.length_map,List.length_range]
theorem zzc {rs:List PR}{ns:List PN}{k i:Nat}(hi:i<ns.length):(mkL rs ns k)[i]?=some (itG (needW rs ns (lfp rs ns)) (loopW ns (lfp rs ns)) k i):=by
 unfold mkL;rw[List.getElem?_map,List.getElem?_range hi];rfl
theorem z3a {rs:List PR}{ns:List PN}{k i:Nat}{n:PN}(hn:ns[i]?=some n)(hI:NodeIn rs ns.length n):holdB rs (lfp rs ns) (mkL rs ns k) n=itG (needW rs ns (lfp rs ns)) (loopW ns (lfp rs ns)) (k+1) i:=by
 unfold holdB;show _=((needW rs ns (lfp rs ns) i).all _ && !loopW ns (lfp rs ns) i);rw[zc8 hn,zlc hn,List.all_map];congr 1;rw[Bool.eq_iff_iff,List.all_eq_true,List.all_eq_true];have hk:∀x,x ∈ needN rs (lfp rs ns) n->okF (mkL rs ns k) x=(itG (needW rs ns (lfp rs ns)) (loopW ns (lfp rs ns)) k ∘ Int.toNat) x:=fun x hx=>by
  obtain⟨h0,h1⟩:=zhj hI hx;obtain⟨j,rfl⟩:∃j:Nat,x=j:=⟨x.toNat,by omega⟩;rw[zy8 (zzc (by omega))];show _=itG _ _ k ((j:Int)).toNat;rw[show((j:Int)).toNat=j by omega]
 exact⟨fun h x hx=>by rw[<-hk x hx];exact h x hx,fun h x hx=>by rw[hk x hx];exact h x hx⟩
theorem zp5 {l:List Bool}{k:Nat}{b:Bool}(h:l[k]?=some b):zkm (l.take (k+1))=zkm (l.take k)++[.bool b]:=by
 unfold zkm;rw[List.take_add_one,h,List.map_append];rfl
def RofIs (l:List Bool)(w:World)(e:Ending)(w':World):Prop:=∃a c,e=.returned (.slice a l.length c)/\BoolsAt w' (.slice a l.length c) l/\Below w.heap.size w w'
theorem zzd (rv nv:Value)(rs:List PR)(ns:List PN)(w:World)(hR:RulesIn w rv rs)(hN:NodesAt w nv ns)(hO:FlowOk rs ns) :
  Calls Tryz.prog 80 #[.agg #[rv,nv]] w (RofIs (mkL rs ns (ns.length+1)) w):=by
 have hs:=hO.nl;obtain⟨ii,hii,hz0,hz1,hz2⟩:=info_parts Tryz.infoBool;have hmk:=fun w=>run_make_row' (P:=Tryz.prog) 58 4 (.bool false) 1 Tryz.underlying58 Tryz.infoBool rfl .i64 .i64 ns.length (by omega) (by omega) w
 have hone:=zab w (.cells #[rv,nv] 25);have HF:=Lib.hid (zxl rv nv rs ns _ (hR.kept hone (Nat.le_refl _)) (hN.kept hone (Nat.le_refl _)) hO);have HH:=Lib.hid (fun(W:World) (fv ov:Value) (l:List Bool) (i:Nat) (n:PN) (hb:Below w.heap.size w W) (hf:FactsAt W fv (lfp rs ns)) (ho:BoolsAt W ov l) (hl:l.length=ns.length) (hn:ns[i]?=some n)=>zt6 rv nv fv ov rs ns (lfp rs ns) l i n W (hR.kept hb (Nat.le_refl _)) (hN.kept hb (Nat.le_refl _)) hf (za7 rs ns) ho hl hn (hO.ok n (List.mem_of_getElem? hn)) (by have:=hO.kl n (List.mem_of_getElem? hn);omega));have HST:=Lib.hid (fun(k i:Nat) (n:PN) (hn:ns[i]?=some n)=>z3a (rs:=rs) (k:=k) hn (hO.ok n (List.mem_of_getElem? hn)));have HLF:=Lib.hid (za7 rs ns);obtain⟨-,ra,rc,rfl,-⟩:=id hR;obtain⟨-,na,nc,rfl,-⟩:=id hN;have HG:=Lib.hid (Bl.new w 25 #[.slice ra rs.length rc,.slice na ns.length nc]);have HONE:=Lib.hid hone;unfold NewF at HF;rw[HLF.out] at HF;clear hR hN hO hone;go_enter Tryz.func80,Tryz.ntmps80
 go_wp2_with (go_at_call 65;(with_reducible refine HF.out.mono ?_);rintro e w3 ⟨fa,fc,rfl,hf,hb⟩;have HB3:=Lib.hid (bl_on HONE.out hb);have HF3:=Lib.hid hf;have HG3:=Lib.hid (HG.out.below hb);have g1:w3.cell? ⟨w.heap.size,1,none⟩=some (.slice na ns.length nc):=HG3.out.cell (o:=1) rfl;have lg:=HG3.out.lt;clear hf hb)
 have HO4:Hid (BoolsAt (w3.alloc (.cells (madeCells #[.bool false] ns.length) 4)) (.slice (some ⟨w3.heap.size,0,none⟩) ns.length ns.length) (mkL rs ns 0)):=Lib.hid ⟨_,ns.length,by rw[zix],.inr ⟨w3.heap.size,0,rfl,fun i x hx=>by
  have hi:i<ns.length:=by have:=(List.getElem?_eq_some_iff.1 hx).1;rwa [zix] at this
  rw[zzc hi] at hx;cases hx;rw[Nat.zero_add];exact Bl.cell (Bl.new w3 4 _) (by simp[madeCells,hi,Nat.mod_one];rfl)⟩⟩
 have HB4:=Lib.hid (zar (o:=.cells (madeCells #[.bool false] ns.length) 4) HB3.out);have HF4:=Lib.hid (HF3.out.below (zab w3 (.cells (madeCells #[.bool false] ns.length) 4)));have HG4:=Lib.hid (HG3.out.past (o:=.cells (madeCells #[.bool false] ns.length) 4));clear g1 lg HB3 HF3 HG3 HF hmk HG HONE;generalize World.alloc _ _=W4 at *
 go_loopw [4,5] (fun v c wr=>∃r:Nat,r<=ns.length+1/\c=.int .i64 (r:Int)/\BoolsAt wr v (mkL rs ns r)/\Below W4.heap.size W4 wr) (fun _ c _=>ns.length+1-(intOf c).toNat)
 case atStart=>exact⟨0,Nat.zero_le _,rfl,HO4.out,Below.refl _ _⟩
 case round=>
  clear HO4;obtain⟨r,hr,rfl,ho,hb⟩:=hrel;obtain⟨va,vc,rfl,-⟩:=id ho;have HO:=Lib.hid ho;have HB:=Lib.hid hb;have hg:=HG4.out.below hb;have g1:wr.cell? ⟨w.heap.size,1,none⟩=some (.slice na ns.length nc):=hg.cell (o:=1) rfl;have lg:=hg.lt;by_cases hlt:r<=ns.length
  ·have k1:(r:Int)<=(ns.length:Int):=by omega
   clear ho hb hg;go_wp2;clear g1 lg;obtain⟨w0,rfl⟩:∃w0,w0=wr:=⟨_,rfl⟩
   go_loopw [6,7] (fun s c wx=>∃k:Nat,k<=ns.length/\c=.int .i64 (k:Int)/\wx.ownsRow w0.heap.size 4 1 s k (zkm ((mkL rs ns (r+1)).take k))/\Below w0.heap.size w0 wx) (fun _ c _=>ns.length-(intOf c).toNat)
   case atStart=>exact⟨0,Nat.zero_le _,rfl,World.ownsRow_nil _ _ _ _,Below.refl _ _⟩
   case round=>
    obtain⟨k,hk,rfl,ho,hb2⟩:=hrel;obtain⟨sa,sc,rfl⟩:=zad ho;have hb4:=bl_on HB.out hb2;have hg:=HG4.out.below hb4;have g0:wr.cell? ⟨w.heap.size,0,none⟩=some (.slice ra rs.length rc):=hg.cell (o:=0) rfl;have g1:wr.cell? ⟨w.heap.size,1,none⟩=some (.slice na ns.length nc):=hg.cell (o:=1) rfl;have lg:=hg.lt;have hz:=HB.out.size;by_cases hlk:k<ns.length
    ·have k2:(k:Int)<(ns.length:Int):=by omega
     obtain⟨n,hn⟩:∃n,ns[k]?=some n:=⟨_,List.getElem?_eq_getElem hlk⟩;have HC:=Lib.hid (HH.out wr _ _ _ k n (bl_on HB4.out hb4) (HF4.out.below hb4) (HO.out.kept hb2 (Nat.le_refl _)) (zix rs ns r) hn);have hbb:(mkL rs ns (r+1))[k]?=some (holdB rs (lfp rs ns) (mkL rs ns r) n):=by rw[HST.out r k n hn];exact zzc hlk
     generalize holdB rs (lfp rs ns) (mkL rs ns r) n=b at *;have HT:=Lib.hid (zp5 hbb);have HOW:=Lib.hid ho;have HB2:=Lib.hid hb2;clear hbb ho hb2 hb4 hg hn
     go_wp2_with (first
      |(go_at_call 117;(with_reducible refine HC.out.mono ?_);rintro e w5 ⟨rfl,hb⟩;have HB5:=Lib.hid (bl_on HB2.out hb);have HO5:=Lib.hid (zaa HOW.out hb);clear hb)
      |(at_builtin;refine wpList_append_own _ rfl _ _ 58 rfl w0.heap.size 4 ii _ 1 1 Tryz.underlying58 hii hz0 hz1 hz2 rfl (by decide) _ k _ rfl (zaa HO5.out (zab _ _)) ⟨_,0,none⟩ 1 1 [.bool b] rfl rfl (Bl.news (Bl.new _ 4 _)) (by simp[Value.oneCell']) (by unfold maxLen;omega) (by omega) (by have:=HB5.out.size;simp;omega) ?_;intro v6 w6 hown' hgrow _;have HO6:=Lib.hid hown';have HB6:=Lib.hid ((zar HB5.out).grown hgrow (zar HB5.out).size (fun g e=>(HO5.out.lt g e).1));clear hown' hgrow))
     go_roundw
     case rel=>exact⟨k+1,by omega,by go_num,by rw[HT.out];exact HO6.out,HB6.out⟩
     case measure=>simp[intOf];omega
    ·obtain rfl:k=ns.length:=by omega
     have k2:¬(ns.length:Int)<(ns.length:Int):=by omega
     have hml:=zix rs ns (r+1);have HOW:Hid (BoolsAt wr (.slice sa ns.length sc) (mkL rs ns (r+1))):=Lib.hid (BoolsAt.of_own (base:=w0.heap.size) (by rw[hml];rw[List.take_of_length_le (by omega)] at ho;exact ho));have HB4':=Lib.hid hb4;clear ho hb2 hb4 hg hml;go_wp2;exact⟨⟨r+1,by omega,by first|go_num|omega,HOW.out,HB4'.out⟩,by simp[intOf];omega⟩
  ·have k1:¬(r:Int)<=(ns.length:Int):=by omega
   obtain rfl:r=ns.length+1:=by omega
   clear ho hb hg;go_wp2;go_ret;exact⟨va,vc,rfl,HO.out,bl_on HB4.out HB.out⟩
theorem zze (rv nv:Value)(rs:List PR)(ns:List PN)(w:World)(hR:RulesIn w rv rs)(hN:NodesAt w nv ns)(hC:CapsAt w nv ns.length)(hO:FlowOk rs ns)(hb:badL rs ns=[]) :
  Calls Tryz.prog 25 #[.agg #[rv,nv]] w fun e w'=>e=.returned .nilIface/\Below w.heap.size w w':=by
 have hone:=Lib.hid (zab w (.cells #[rv,nv] 25));have HW:=Lib.hid (zjx rv nv rs ns _ (hR.kept hone.out (Nat.le_refl _)) (hN.kept hone.out (Nat.le_refl _)) (hC.kept hN rfl hone.out) hO);obtain⟨-,ra,rc,rfl,-⟩:=hR;obtain⟨-,na,nc,rfl,-⟩:=hN;unfold RowIs at HW;rw[hb] at HW;clear hC hO hb;go_enter Tryz.func25,Tryz.ntmps25
 go_wp2_with (go_at_call 50;(with_reducible refine HW.out.mono ?_);rintro e w2 ⟨v,rfl,ho,hb⟩;obtain⟨va,vc,rfl⟩:=zad ho;have HB2:=Lib.hid hb;clear ho hb)
 go_ret;exact⟨rfl,bl_on hone.out HB2.out⟩
def ChkErr (nm:ByteArray)(i:Int)(w:World)(e:Ending)(w':World):Prop:=(∃b,e=.returned (.iface 126 (.pointer (some ⟨b,0,none⟩)))/\w'.cell? ⟨b,0,none⟩=some (.string nm)/\w'.cell? ⟨b,1,none⟩=some (.iface 132 (.agg #[.int .i64 6,.int .i64 i])))/\Below w.heap.size w w'
theorem ChkErr.mk {nm:ByteArray}{i:Int}{w W:World}{n:Nat}(hn:n=W.heap.size)(hb:Below w.heap.size w W):ChkErr nm i w (.returned (.iface 126 (.pointer (some ⟨n,0,none⟩)))) (W.alloc (.cells #[.string nm,.iface 132 (.agg #[.int .i64 6,.int .i64 i])] 128)):=by
 subst hn;exact⟨⟨_,rfl,by simp,by simp⟩,hb.alloc hb.size _⟩
theorem zt7 (rv nv:Value)(rs:List PR)(ns:List PN)(i:Nat)(t:List Int)(w:World)(hR:RulesIn w rv rs)(hN:NodesAt w nv ns)(hC:CapsAt w nv ns.length)(hO:FlowOk rs ns)(hb:badL rs ns=(i:Int)::t)(hU:RootsUp (-1) rs)(hs:rs.length<=1000000)(hnm:∀r,r ∈ rs->r.name.size<=1000)(ho:ownL rs (i:Int)<rs.length) :
  Calls Tryz.prog 25 #[.agg #[rv,nv]] w (ChkErr (zng rs i) (i:Int) w):=by
 have hone:=Lib.hid (zab w (.cells #[rv,nv] 25));have HW:=Lib.hid (zjx rv nv rs ns _ (hR.kept hone.out (Nat.le_refl _)) (hN.kept hone.out (Nat.le_refl _)) (hC.kept hN rfl hone.out) hO);have HRN:=Lib.hid (fun(W:World) (hb:Below w.heap.size w W)=>zte rv nv rs ns i W (hR.kept hb (Nat.le_refl _)) (hN.kept hb (Nat.le_refl _)) hU hs hnm ho);obtain⟨-,ra,rc,rfl,-⟩:=hR;obtain⟨-,na,nc,rfl,-⟩:=hN;unfold RowIs at HW;rw[hb] at HW;have HG:=Lib.hid (Bl.new w 25 #[.slice ra rs.length rc,.slice na ns.length nc]);have hlt:(0:Int)<((((i:Int)::t).length:Nat):Int):=by simp only[List.length_cons];omega
 have hne:((((((i:Int)::t).length:Nat):Int)) == 0)=false:=zaj (by simp only[List.length_cons];omega);generalize hl:((i:Int)::t).length=m at *;generalize zng rs i=nm at *;clear hC hO hb hU hs hnm ho;go_enter Tryz.func25,Tryz.ntmps25
 go_upto_region 4 with(go_at_call 50;(with_reducible refine HW.out.mono ?_);rintro e w2 ⟨v,rfl,ho,hb⟩;obtain⟨va,vc,rfl⟩:=zad ho;obtain⟨g,rfl,hgb,hc,-⟩:=zan ho (by omega);have c0:=hc 0 (.int .i64 (i:Int)) rfl;have HB2:=Lib.hid (bl_on hone.out hb);have hg2:=HG.out.below hb;have HG2:=Lib.hid hg2;have HC0:=Lib.hid c0;have lc:=zac c0;have lg:=hg2.lt;clear ho hb hc hgb hg2 c0)
 have c0:=HC0.out;have g0:=HG2.out.cell (o:=0) (u:=.slice ra rs.length rc) rfl;have g1:=HG2.out.cell (o:=1) (u:=.slice na ns.length nc) rfl;have HRN2:=Lib.hid (HRN.out w2.drew (zak (m:=1) HB2.out))
 go_region_with (first
  |(go_at_call 52;go_loud ((with_reducible refine HRN2.out.mono ?_);rintro e w3 ⟨rfl,hb⟩;have HB3:=Lib.hid (bl_on (HB2.out.drew) hb);have c3:w3.cell? ⟨g,0,none⟩=some (.int .i64 (i:Int)):=((bcell hb).1 g 0 (show g<w2.drew.heap.size from lc)).trans HC0.out;have lc3:=zac c3;clear hb))
  |(go_at_call 53;(with_reducible refine(zc6 6 (i:Int) _).mono ?_);rintro e w4 ⟨rfl,hw⟩;obtain rfl:=hw)
  |(go_at_call 51;(with_reducible refine(zcb nm 6 (i:Int) _).mono ?_);rintro e w5 ⟨rfl,rfl⟩))
 all_goals
  go_wp2_with fail
  go_ret;exact ChkErr.mk rfl HB3.out
end Go.Proofs.YthhppmehhdlmnaaGreatDoor
