/- Facts in memory; flow.at, flow.root, Facts.succeeds; the reference's ok. flow.sequence and flow.choice. flow.choice. flow.single: a prefix or suffix. gram.wellM -/
import Derived.Deep.RegionWith
import Derived.Deep.Cut
import Derived.Deep.RegionHeld3
import Derived.Test.YthhppmehhdlmnaaGreatDoorPzD
import Derived.Test.YthhppmehhdlmnaaGreatDoorPzFM
import Derived.Test.YthhppmehhdlmnaaGreatDoorPzGA
import Derived.Test.YthhppmehhdlmnaaGreatDoorPzMM
set_option maxRecDepth 100000
set_option maxHeartbeats 8000000
namespace Go.Proofs.YthhppmehhdlmnaaGreatDoor
open Go.RowKit
def factV (f:Fc):Value:=.agg #[.bool f.nul,.bool f.eat,.bool f.fai]
def FactAt (w:World)(b o:Nat)(f:Fc):Prop:=w.cell? ⟨b,o,none⟩=some (.bool f.nul)/\w.cell? ⟨b,o+1,none⟩=some (.bool f.eat)/\w.cell? ⟨b,o+2,none⟩=some (.bool f.fai)
def FactsAt (w:World)(v:Value)(l:List Fc):Prop:=l.length<=maxLen/\∃a cap,v=.slice a l.length cap/\(l=[]∨∃b off,a=some ⟨b,off,none⟩/\∀i f,l[i]?=some f->FactAt w b (off+i*3) f)
theorem FactAt.kept {n:Nat}{w w':World}{b o:Nat}{f:Fc}(h:FactAt w b o f)(hb:Below n w w')(hn:w.heap.size<=n):FactAt w' b o f:=by
 obtain⟨h0,h1,h2⟩:=h;have hl:=zac h0;have hc:=fun o=>(bcell hb).1 b o (by omega)
 exact⟨by rw[hc];exact h0,by rw[hc];exact h1,by rw[hc];exact h2⟩
theorem FactsAt.kept {n:Nat}{w w':World}{v:Value}{l:List Fc}(h:FactsAt w v l)(hb:Below n w w')(hn:w.heap.size<=n):FactsAt w' v l:=by
 obtain⟨hl,a,cap,rfl,h⟩:=h;refine⟨hl,a,cap,rfl,?_⟩;rcases h with h|⟨b,off,rfl,hc⟩
 ·exact .inl h
 ·exact .inr ⟨b,off,rfl,fun i f hi=>(hc i f hi).kept hb hn⟩
theorem FactsAt.below {w w':World}{v:Value}{l:List Fc}(h:FactsAt w v l)(hb:Below w.heap.size w w'):FactsAt w' v l:=h.kept hb (Nat.le_refl _)
theorem FactsAt.slice {w:World}{v:Value}{l:List Fc}(h:FactsAt w v l):∃a c,v=.slice a l.length c:=by obtain⟨-,a,c,e,-⟩:=h;exact⟨a,c,e⟩
theorem FactsAt.at {w:World}{a:Option Addr}{n c:Nat}{l:List Fc}{i:Nat}{f:Fc}(h:FactsAt w (.slice a n c) l)(hx:l[i]?=some f):∃b off,a=some ⟨b,off,none⟩/\FactAt w b (off+i*3) f:=by
 obtain⟨-,a',c',e,h⟩:=h;injection e with e1 e2 e3;subst e1;rcases h with h|⟨b,off,rfl,hc⟩
 ·rw[h] at hx;simp at hx
 ·exact⟨b,off,rfl,hc i f hx⟩
theorem Bl.p0 {w:World}{b:Nat}{t:TypeId}{x y z:Value}(h:Bl w b t #[x,y,z])(u:Value):Bl (w.setCell ⟨b,0,none⟩ u) b t #[u,y,z]:=h.set' u
theorem Bl.p1 {w:World}{b:Nat}{t:TypeId}{x y z:Value}(h:Bl w b t #[x,y,z])(u:Value):Bl (w.setCell ⟨b,1,none⟩ u) b t #[x,u,z]:=h.set' u
theorem Bl.p2 {w:World}{b:Nat}{t:TypeId}{x y z:Value}(h:Bl w b t #[x,y,z])(u:Value):Bl (w.setCell ⟨b,2,none⟩ u) b t #[x,y,u]:=h.set' u
theorem Bl.c0 {w:World}{b:Nat}{t:TypeId}{x y z:Value}(h:Bl w b t #[x,y,z]):w.cell? ⟨b,0,none⟩=some x:=h.cell (o:=0) rfl
theorem Bl.c1 {w:World}{b:Nat}{t:TypeId}{x y z:Value}(h:Bl w b t #[x,y,z]):w.cell? ⟨b,1,none⟩=some y:=h.cell (o:=1) rfl
theorem Bl.c2 {w:World}{b:Nat}{t:TypeId}{x y z:Value}(h:Bl w b t #[x,y,z]):w.cell? ⟨b,2,none⟩=some z:=h.cell (o:=2) rfl
theorem za5 {b o:Nat}{v:Value}{w W:World}(h:Below w.heap.size w W)(hb:w.heap.size<=b):Below w.heap.size w (W.setCell ⟨b,o,none⟩ v):=h.setCell (p:=⟨b,o,none⟩) hb v
theorem zar {o:Obj}{w W:World}(h:Below w.heap.size w W):Below w.heap.size w (W.alloc o):=h.alloc h.size o
theorem bl_on {w W W':World}(h:Below w.heap.size w W)(hb:Below W.heap.size W W'):Below w.heap.size w W':=h.trans (hb.mono h.size)
theorem Bl.off {b c o:Nat}{t:TypeId}{cs:Array Value}{v:Value}{w:World}(h:Bl w b t cs)(hc:b≠c):Bl (w.setCell ⟨c,o,none⟩ v) b t cs:=h.other hc v
theorem zay {n b:Nat}{w w':World}(h:Below n w w')(hb:n<=b)(x y z:Value):Below n w (((w'.setCell ⟨b,0,none⟩ x).setCell ⟨b,1,none⟩ y).setCell ⟨b,2,none⟩ z):=
 ((h.setCell (p:=⟨b,0,none⟩) hb x).setCell (p:=⟨b,1,none⟩) hb y).setCell (p:=⟨b,2,none⟩) hb z
theorem zf1 (f:Fc)(w:World):Calls Tryz.prog 147 #[factV f] w fun e w'=>e=.returned (.bool f.ok)/\Below w.heap.size w w':=by
 obtain⟨a,b,c⟩:=f;unfold factV Fc.ok;cases a<;>cases b <;>
 ·go_enter Tryz.func147,Tryz.ntmps147
  go_wp2;go_ret;exact⟨rfl,zab _ _⟩
theorem zfj (f:Fc)(w:World):Calls Tryz.prog 158 #[factV f] w fun e w'=>e=.returned (.bool f.ok)/\Below w.heap.size w w':=by
 obtain⟨a,b,c⟩:=f;unfold factV Fc.ok;cases a<;>cases b <;>
 ·go_enter Tryz.func158,Tryz.ntmps158
  go_wp2;go_ret;exact⟨rfl,zab _ _⟩
theorem zlb (v:Value)(l:List Fc)(i:Int)(w:World)(h:FactsAt w v l) :
  Calls Tryz.prog 113 #[v,.int .i64 i] w fun e w'=>e=.returned (factV (atF l i))/\Below w.heap.size w w':=by
 obtain⟨a,c,rfl⟩:=h.slice;by_cases h0:i<0
 ·rw[zfi h0]
  go_enter Tryz.func113,Tryz.ntmps113;go_wp2;exact bodyPost_ret (v:=factV fc0) (by simp[results,Tryz.results113,go_sem,factV,fc0]) rfl ⟨rfl,zab _ _⟩
 ·by_cases h1:(l.length:Int)<=i
  ·rw[zor h1]
   go_enter Tryz.func113,Tryz.ntmps113;go_wp2;exact bodyPost_ret (v:=factV fc0) (by simp[results,Tryz.results113,go_sem,factV,fc0]) rfl ⟨rfl,zab _ _⟩
  ·obtain⟨k,rfl⟩:∃k:Nat,i=k:=⟨i.toNat,by omega⟩
   have hk:k<l.length:=by omega
   obtain⟨f,hf⟩:∃f,l[k]?=some f:=⟨_,List.getElem?_eq_getElem hk⟩;rw[za6 hf];obtain⟨b,off,rfl,c0,c1,c2⟩:=h.at hf;have hlt:=zac c0;have k1:(k:Int)<(l.length:Int):=by omega
   clear h hf;go_enter Tryz.func113,Tryz.ntmps113;go_wp2;exact bodyPost_ret (v:=factV f) (by simp[results,Tryz.results113,go_sem,factV]) rfl ⟨rfl,zab _ _⟩
theorem zmy (rv nv:Value)(rs:List PR)(r:Int)(w:World)(hR:RulesIn w rv rs) :
  Calls Tryz.prog 112 #[.agg #[rv,nv],.int .i64 r] w fun e w'=>e=.returned (.int .i64 (rootF rs r))/\Below w.heap.size w w':=by
 obtain⟨-,ra,rc,rfl,hra⟩:=id hR;by_cases h0:r<0
 ·rw[zu9 h0]
  go_enter Tryz.func112,Tryz.ntmps112;go_wp2;go_ret;exact⟨rfl,zab _ _⟩
 ·by_cases h1:(rs.length:Int)<=r
  ·rw[zva h1]
   go_enter Tryz.func112,Tryz.ntmps112;go_wp2;go_ret;exact⟨rfl,zab _ _⟩
  ·obtain⟨k,rfl⟩:∃k:Nat,r=k:=⟨r.toNat,by omega⟩
   have hk:k<rs.length:=by omega
   obtain⟨x,hx⟩:∃x,rs[k]?=some x:=⟨_,List.getElem?_eq_getElem hk⟩;rw[zcn hx];rcases hra with h|⟨rb,ro,rfl,hca⟩
   ·rw[h] at hk;exact absurd hk (Nat.not_lt_zero _)
   obtain⟨r0,r1⟩:=hca k x hx;have lr:=zac r0;have k1:(k:Int)<(rs.length:Int):=by omega
   clear hR hca hx;go_enter Tryz.func112,Tryz.ntmps112;go_wp2;go_ret;exact⟨rfl,zab _ _⟩
theorem zmz {α:Type}{l:List α}{k:Nat}{x:α}(h:l[k]?=some x):l.drop k=x::l.drop (k+1):=by
 obtain⟨h1,h2⟩:=List.getElem?_eq_some_iff.1 h;rw[<-h2];exact List.drop_eq_getElem_cons h1
def SqAt (w wr:World)(s:Fc):Prop:=Bl wr w.heap.size 120 #[.bool false,.bool false,.bool false]/\Bl wr (w.heap.size+1) 120 #[.bool s.nul,.bool s.eat,.bool s.fai]/\Below w.heap.size w wr
theorem z0h (kv v:Value)(kids:List Int)(l:List Fc)(w:World)(hK:IntsAt w kv kids)(hl:kids.length<=maxLen)(hF:FactsAt w v l) :
  Calls Tryz.prog 114 #[kv,v] w fun e w'=>e=.returned (factV (seqF (kids.map (atF l))))/\Below w.heap.size w w':=by
 unfold maxLen at hl;obtain⟨ka,kc,rfl,hka⟩:=hK;have HA:=Lib.hid (fun(i:Int) (W:World) (hb:Below w.heap.size w W)=>zlb v l i W (hF.kept hb (Nat.le_refl _)));clear hF;go_enter Tryz.func114,Tryz.ntmps114;go_wp2
 go_loopw [12] (fun c wr=>∃(k:Nat) (s:Fc),k<=kids.length/\c=.int .i64 (k:Int)/\SqAt w wr s/\seqE (((kids.drop k).map (atF l)).foldl seqS (s,true))=seqF (kids.map (atF l))) (fun c _=>kids.length-(intOf c).toNat)
 case atStart=>exact⟨0,⟨true,false,false⟩,Nat.zero_le _,rfl,⟨Bl.past (Bl.new w _ _),Bl.new' (by simp),zat _ _ _⟩,rfl⟩
 case round=>
  obtain⟨k,s,hk,rfl,hq,hs⟩:=hrel;by_cases hlt:k<kids.length
  ·have k1:(k:Int)<(kids.length:Int):=by omega
   obtain⟨x,hx⟩:∃x,kids[k]?=some x:=⟨_,List.getElem?_eq_getElem hlt⟩;rcases hka with h0|⟨kb,ko,rfl,hca⟩
   ·rw[h0] at hlt;exact absurd hlt (Nat.not_lt_zero _)
   have cx:=hca k x hx;have lx:=zac cx;have cx':wr.cell? ⟨kb,ko+k,none⟩=some (.int .i64 x):=by rw[(bcell hq.2.2).1 _ _ lx];exact cx
   rw[zmz hx] at hs;have HA2:=Lib.hid (HA.out x wr hq.2.2);generalize hf:atF l x=f at *;have hs':seqE ((f::(kids.drop (k+1)).map (atF l)).foldl seqS (s,true))=seqF (kids.map (atF l)):=by rw[<-hf];exact hs
   have HQ:=Lib.hid hq;clear hca hx hs hq cx hf;cases hok:f.ok with
   |false=>
    rw[zz6 hok] at hs';have HS:=Lib.hid (fun W=>zf1 f W);rw[hok] at HS;have HE:=Lib.hid hs';clear hs' hok;obtain⟨sn,se,sf⟩:=s;unfold factV at HA2 HS;cases sf with
    |false=>
     go_wp2_with (first
      |(go_at_call 113;(with_reducible refine HA2.out.mono ?_);rintro e w5 ⟨rfl,hb⟩;have b0:=HQ.out.1.below hb;have b1:=HQ.out.2.1.below hb;have HB:=Lib.hid (HQ.out.2.2.trans (hb.mono HQ.out.2.2.size));have a0:=b1.c0;have a1:=b1.c1;have a2:=b1.c2;have af:=b1.free;have l1:=b1.lt;have l0:=b0.lt;have B0:=Lib.hid b0;have B1:=Lib.hid b1;clear hb b0 b1)
      |(go_at_call 147;(with_reducible refine(HS.out _).mono ?_);rintro e w6 ⟨rfl,hb⟩;have d0:=(Bl.past (B0.out.off (Nat.ne_of_lt (Nat.lt_succ_self _)))).below hb;have d1:=(Bl.past (B1.out.p2 _)).below hb;have HB6:=Lib.hid (bl_on (zar (za5 HB.out (Nat.le_succ _))) hb);have e2:=d1.c2;have e0:=d0.c0;have e1:=d0.c1;have e3:=d0.c2;have ef:=d0.free;have g1:=d1.lt;have g0:=d0.lt;have D0:=Lib.hid d0;clear hb d0 d1))
     rw[<-HE.out];have d:=((D0.out.p0 (.bool false)).p1 (.bool false)).p2 (.bool f.fai);have r0:=d.c0;have r1:=d.c1;have r2:=d.c2;exact bodyPost_ret (v:=factV ⟨false,false,f.fai⟩) (by simp[results,Tryz.results114,go_sem,factV,r0,r1,r2]) rfl ⟨rfl,zay HB6.out (Nat.le_refl _) _ _ _⟩
    |true=>
     go_wp2_with (first
      |(go_at_call 113;(with_reducible refine HA2.out.mono ?_);rintro e w5 ⟨rfl,hb⟩;have b0:=HQ.out.1.below hb;have b1:=HQ.out.2.1.below hb;have HB:=Lib.hid (HQ.out.2.2.trans (hb.mono HQ.out.2.2.size));have a0:=b1.c0;have a1:=b1.c1;have a2:=b1.c2;have af:=b1.free;have l1:=b1.lt;have l0:=b0.lt;have B0:=Lib.hid b0;have B1:=Lib.hid b1;clear hb b0 b1)
      |(go_at_call 147;(with_reducible refine(HS.out _).mono ?_);rintro e w6 ⟨rfl,hb⟩;have d0:=(Bl.past (B0.out.off (Nat.ne_of_lt (Nat.lt_succ_self _)))).below hb;have d1:=(Bl.past (B1.out.p2 _)).below hb;have HB6:=Lib.hid (bl_on (zar (za5 HB.out (Nat.le_succ _))) hb);have e2:=d1.c2;have e0:=d0.c0;have e1:=d0.c1;have e3:=d0.c2;have ef:=d0.free;have g1:=d1.lt;have g0:=d0.lt;have D0:=Lib.hid d0;clear hb d0 d1))
     rw[<-HE.out];have d:=((D0.out.p0 (.bool false)).p1 (.bool false)).p2 (.bool true);have r0:=d.c0;have r1:=d.c1;have r2:=d.c2;exact bodyPost_ret (v:=factV ⟨false,false,true⟩) (by simp[results,Tryz.results114,go_sem,factV,r0,r1,r2]) rfl ⟨rfl,zay HB6.out (Nat.le_refl _) _ _ _⟩
   |true=>
    rw[z78 hok] at hs';have HS:=Lib.hid (fun W=>zf1 f W);rw[hok] at HS;have HE:=Lib.hid hs';clear hs' hok;obtain⟨sn,se,sf⟩:=s;unfold factV at HA2 HS;cases sf<;>cases sn<;>cases se <;>
    ·go_wp2_with (first
      |(go_at_call 113;(with_reducible refine HA2.out.mono ?_);rintro e w5 ⟨rfl,hb⟩;have b0:=HQ.out.1.below hb;have b1:=HQ.out.2.1.below hb;have HB:=Lib.hid (HQ.out.2.2.trans (hb.mono HQ.out.2.2.size));have a0:=b1.c0;have a1:=b1.c1;have a2:=b1.c2;have af:=b1.free;have l1:=b1.lt;have l0:=b0.lt;have B0:=Lib.hid b0;have B1:=Lib.hid b1;clear hb b0 b1)
      |(go_at_call 147;(with_reducible refine(HS.out _).mono ?_);rintro e w6 ⟨rfl,hb⟩;have d0:=(Bl.past (B0.out.off (Nat.ne_of_lt (Nat.lt_succ_self _)))).below hb;have d1:=(Bl.past (B1.out.p2 _)).below hb;have HB6:=Lib.hid (bl_on (zar (za5 HB.out (Nat.le_succ _))) hb);have e2:=d1.c2;have e0:=d0.c0;have e1:=d0.c1;have e3:=d0.c2;have ef:=d0.free;have g1:=d1.lt;have g0:=d0.lt;have b8:=(Bl.new' (B:=w5.heap.size) (cs:=#[.bool f.nul,.bool f.eat,.bool f.fai]) (t:=120) (by simp)).below hb;have n0:=b8.c0;have n1:=b8.c1;have h0:=d1.c0;have h1:=d1.c1;have hf':=d1.free;have l8:=b8.lt;have D0:=Lib.hid d0;have D1:=Lib.hid d1;clear hb d0 d1 b8 e0 e1 e2 e3 ef))
     go_roundw
     case rel=>exact⟨k+1,_,by omega,by go_num,⟨(D0.out.off (Nat.ne_of_lt (Nat.lt_succ_self _))).off (Nat.ne_of_lt (Nat.lt_succ_self _)),(D1.out.p0 _).p1 _,za5 (za5 HB6.out (Nat.le_succ _)) (Nat.le_succ _)⟩,HE.out⟩
     case measure=>simp[intOf];omega
  ·obtain rfl:k=kids.length:=by omega
   have k1:¬(kids.length:Int)<(kids.length:Int):=by omega
   rw[List.drop_length] at hs;have HE:=Lib.hid (show s=seqF (kids.map (atF l)) by rw[<-hs];exact(z4v s).symm);have B0:=Lib.hid hq.1;have HB:=Lib.hid hq.2.2;have a0:=hq.2.1.c0;have a1:=hq.2.1.c1;have a2:=hq.2.1.c2;have c0:=hq.1.c0;have c1:=hq.1.c1;have c2:=hq.1.c2;have cf:=hq.1.free;clear hq hs;go_wp2;rw[<-HE.out];have d:=((B0.out.p0 (.bool s.nul)).p1 (.bool s.eat)).p2 (.bool s.fai);have r0:=d.c0;have r1:=d.c1;have r2:=d.c2;exact bodyPost_ret (v:=factV s) (by simp[results,Tryz.results114,go_sem,factV,r0,r1,r2]) rfl ⟨rfl,zay HB.out (Nat.le_refl _) _ _ _⟩
theorem z0i (kv v:Value)(kids:List Int)(l:List Fc)(w:World)(hK:IntsAt w kv kids)(hl:kids.length<=maxLen)(hF:FactsAt w v l) :
  Calls Tryz.prog 115 #[kv,v] w fun e w'=>e=.returned (factV (choF (kids.map (atF l))))/\Below w.heap.size w w':=by
 unfold maxLen at hl;obtain⟨ka,kc,rfl,hka⟩:=hK;have HA:=Lib.hid (fun(i:Int) (W:World) (hb:Below w.heap.size w W)=>zlb v l i W (hF.kept hb (Nat.le_refl _)));clear hF;go_enter Tryz.func115,Tryz.ntmps115;go_wp2
 go_loopw [11] (fun c wr=>∃(k:Nat) (sn se:Bool),k<=kids.length/\c=.int .i64 (k:Int)/\SqAt w wr ⟨sn,se,false⟩/\((kids.drop k).map (atF l)).foldl choS ⟨sn,se,true⟩=choF (kids.map (atF l))) (fun c _=>kids.length-(intOf c).toNat)
 case atStart=>exact⟨0,false,false,Nat.zero_le _,rfl,⟨Bl.past (Bl.new w _ _),Bl.new' (by simp),zat _ _ _⟩,rfl⟩
 case round=>
  obtain⟨k,sn,se,hk,rfl,hq,hs⟩:=hrel;by_cases hlt:k<kids.length
  ·have k1:(k:Int)<(kids.length:Int):=by omega
   obtain⟨x,hx⟩:∃x,kids[k]?=some x:=⟨_,List.getElem?_eq_getElem hlt⟩;rcases hka with h0|⟨kb,ko,rfl,hca⟩
   ·rw[h0] at hlt;exact absurd hlt (Nat.not_lt_zero _)
   have cx:=hca k x hx;have lx:=zac cx;have cx':wr.cell? ⟨kb,ko+k,none⟩=some (.int .i64 x):=by rw[(bcell hq.2.2).1 _ _ lx];exact cx
   rw[zmz hx] at hs;have HA2:=Lib.hid (HA.out x wr hq.2.2);generalize hf:atF l x=f at *;have hs':(f::(kids.drop (k+1)).map (atF l)).foldl choS ⟨sn,se,true⟩=choF (kids.map (atF l)):=by rw[<-hf];exact hs
   have HQ:=Lib.hid hq;clear hca hx hs hq cx hf;obtain⟨vn,hvn⟩:∃vn,vn=(sn || f.nul):=⟨_,rfl⟩;obtain⟨ve,hve⟩:∃ve,ve=(se || f.eat):=⟨_,rfl⟩;have hne:w.heap.size≠w.heap.size+1:=Nat.ne_of_lt (Nat.lt_succ_self _);have HVN:=Lib.hid hvn;have HVE:=Lib.hid hve;have HNE:=Lib.hid hne;have HS:=Lib.hid hs';unfold factV at HA2;clear hs' hvn hve hne;cases sn<;>cases se <;>
   ·go_upto_region 8 with(go_at_call 113;(with_reducible refine HA2.out.mono ?_);rintro e w5 ⟨rfl,hb⟩;have b0:=HQ.out.1.below hb;have b1:=HQ.out.2.1.below hb;have HB:=Lib.hid (bl_on HQ.out.2.2 hb);have a0:=b1.c0;have a1:=b1.c1;have a2:=b1.c2;have af:=b1.free;have l1:=b1.lt;have l0:=b0.lt;have B0:=Lib.hid b0;have B1:=Lib.hid b1;clear hb b0 b1)
    generalize hW:World.alloc _ _=W;have d0:Bl W w.heap.size 120 #[.bool false,.bool false,.bool false]:=by rw[<-hW];exact Bl.past ((B0.out.off HNE.out).off HNE.out)
    have d1:Bl W (w.heap.size+1) 120 #[.bool vn,.bool ve,.bool false]:=by rw[<-hW,HVN.out,HVE.out];exact Bl.past ((B1.out.p0 _).p1 _)
    have d8:Bl W w5.heap.size 120 #[.bool f.nul,.bool f.eat,.bool f.fai]:=by rw[<-hW];exact Bl.new' (by simp)
    have dB:Below w.heap.size w W:=by rw[<-hW];exact zar (za5 (za5 HB.out (Nat.le_succ _)) (Nat.le_succ _))
    clear hW;have q2:=d8.c2;have r0:=d1.c0;have r1:=d1.c1;have r2:=d1.c2;have rf:=d1.free;have e0:=d0.c0;have e1:=d0.c1;have e2:=d0.c2;have ef:=d0.free;clear a0 a1 a2 af l1 l0 B0 B1 HB;have D0:=Lib.hid d0;have D1:=Lib.hid d1;have DB:=Lib.hid dB;clear d0 d1 d8 dB;cases hok:f.fai with
    |false=>
     have hs2:=HS.out;rw[zz7 hok,<-HVN.out,<-HVE.out] at hs2;rw[hok] at q2;have HE:=Lib.hid hs2;clear hs2 hok;go_wp2;rw[<-HE.out];have d:=((D0.out.p0 (.bool vn)).p1 (.bool ve)).p2 (.bool false);have k0:=d.c0;have k1:=d.c1;have k2:=d.c2;exact bodyPost_ret (v:=factV ⟨vn,ve,false⟩) (by simp[results,Tryz.results115,go_sem,factV,k0,k1,k2]) rfl ⟨rfl,zay DB.out (Nat.le_refl _) _ _ _⟩
    |true=>
     have hs2:=HS.out;rw[z79 hok,<-HVN.out,<-HVE.out] at hs2;rw[hok] at q2;have HE:=Lib.hid hs2;clear hs2 hok;go_wp2;go_roundw
     case rel=>exact⟨k+1,vn,ve,by omega,by go_num,⟨D0.out,D1.out,DB.out⟩,HE.out⟩
     case measure=>simp[intOf];omega
  ·obtain rfl:k=kids.length:=by omega
   have k1:¬(kids.length:Int)<(kids.length:Int):=by omega
   rw[List.drop_length] at hs;have HE:=Lib.hid (show(⟨sn,se,true⟩:Fc)=choF (kids.map (atF l)) from hs);have B0:=Lib.hid hq.1;have HB:=Lib.hid hq.2.2;have a0:=hq.2.1.c0;have a1:=hq.2.1.c1;have a2:=hq.2.1.c2;have af:=hq.2.1.free;have c0:=hq.1.c0;have c1:=hq.1.c1;have c2:=hq.1.c2;have cf:=hq.1.free;have hne:w.heap.size≠w.heap.size+1:=Nat.ne_of_lt (Nat.lt_succ_self _);have HNE:=Lib.hid hne;have l1:=hq.2.1.lt;have l0:=hq.1.lt;clear hq hs hne;go_wp2;rw[<-HE.out];have d:=(((B0.out.off (c:=w.heap.size+1) (o:=2) (v:=.bool true) HNE.out).p0 (.bool sn)).p1 (.bool se)).p2 (.bool true);have r0:=d.c0;have r1:=d.c1;have r2:=d.c2;exact bodyPost_ret (v:=factV ⟨sn,se,true⟩) (by simp[results,Tryz.results115,go_sem,factV,r0,r1,r2]) rfl ⟨rfl,zay (za5 HB.out (Nat.le_succ _)) (Nat.le_refl _) _ _ _⟩
theorem zvv (op:Int)(f:Fc)(w:World)(h5:5<=op)(h9:op<=9):Calls Tryz.prog 116 #[.int .i64 op,factV f] w fun e w'=>e=.returned (factV (singF op f))/\Below w.heap.size w w':=by
 rcases(show op=5∨op=6∨op=7∨op=8∨op=9 by omega) with rfl|rfl|rfl|rfl|rfl
 ·rw[show singF 5 f=⟨f.fai,f.eat,false⟩ from rfl]
  obtain⟨a,b,c⟩:=f;unfold factV;go_enter Tryz.func116,Tryz.ntmps116;go_wp2;exact bodyPost_ret (v:=.agg #[.bool c,.bool b,.bool false]) (by simp[results,Tryz.results116,go_sem]) rfl ⟨rfl,zat _ _ _⟩
 ·rw[show singF 6 f=⟨f.nul&&f.fai,f.eat,f.fai⟩ from rfl]
  obtain⟨a,b,c⟩:=f;unfold factV;cases a <;>
  ·go_enter Tryz.func116,Tryz.ntmps116
   go_wp2;exact bodyPost_ret (v:=.agg #[.bool _,.bool b,.bool c]) (by simp[results,Tryz.results116,go_sem]) rfl ⟨rfl,zat _ _ _⟩
 ·rw[show singF 7 f=⟨f.nul || f.fai,f.eat,false⟩ from rfl]
  obtain⟨a,b,c⟩:=f;unfold factV;cases a <;>
  ·go_enter Tryz.func116,Tryz.ntmps116
   go_wp2;exact bodyPost_ret (v:=.agg #[.bool _,.bool b,.bool false]) (by simp[results,Tryz.results116,go_sem]) rfl ⟨rfl,zat _ _ _⟩
 ·rw[show singF 8 f=⟨f.ok,false,f.fai⟩ from rfl]
  have HS:=Lib.hid fun W=>zf1 f W
  obtain⟨W,hW⟩:∃W,((w.alloc (Obj.cells #[.bool f.nul,.bool f.eat,.bool f.fai] 120)).alloc (Obj.cells #[.bool false,.bool false,.bool false] 120))=W:=⟨_,rfl⟩;have hB:Below w.heap.size w W:=by rw[<-hW];exact zat _ _ _
  have b1:Bl W w.heap.size 120 #[.bool f.nul,.bool f.eat,.bool f.fai]:=by rw[<-hW];exact Bl.past (Bl.new w _ _)
  have b2:Bl W (w.heap.size+1) 120 #[.bool false,.bool false,.bool false]:=by rw[<-hW];exact Bl.new' (by simp)
  unfold factV at HS;unfold factV;go_enter Tryz.func116,Tryz.ntmps116
  go_wp2_with (fail)
  have a0:=b1.c0;have a1:=b1.c1;have a2:=b1.c2;have l1:=b1.lt;have l2:=b2.lt;have HB:=Lib.hid hB;have B1:=Lib.hid b1;have B2:=Lib.hid b2;clear hW hB b1 b2
  go_region_with (go_at_call 147;(with_reducible refine(HS.out _).mono ?_);rintro e w4 ⟨rfl,hb⟩;have HB4:=Lib.hid ((HB.out.drew).trans (hb.mono HB.out.size));have b2:=B2.out.drew.below hb;have c0:=b2.c0;have c1:=b2.c1;have c2:=b2.c2;have cf:=b2.free;have b1:=B1.out.drew.below hb;have d2:=b1.c2;have B24:=Lib.hid b2;clear hb b1 b2)
  all_goals go_wp2
  all_goals
   have b2:=((B24.out.p0 (.bool f.ok)).p1 (.bool false)).p2 (.bool f.fai);have r0:=b2.c0;have r1:=b2.c1;have r2:=b2.c2;exact bodyPost_ret (v:=.agg #[.bool f.ok,.bool false,.bool f.fai]) (by simp[results,Tryz.results116,go_sem,r0,r1,r2]) rfl ⟨rfl,zay HB4.out (Nat.le_succ _) _ _ _⟩
 ·rw[show singF 9 f=⟨f.fai,false,f.ok⟩ from rfl]
  have HS:=Lib.hid fun W=>zf1 f W
  obtain⟨W,hW⟩:∃W,((w.alloc (Obj.cells #[.bool f.nul,.bool f.eat,.bool f.fai] 120)).alloc (Obj.cells #[.bool false,.bool false,.bool false] 120))=W:=⟨_,rfl⟩;have hB:Below w.heap.size w W:=by rw[<-hW];exact zat _ _ _
  have b1:Bl W w.heap.size 120 #[.bool f.nul,.bool f.eat,.bool f.fai]:=by rw[<-hW];exact Bl.past (Bl.new w _ _)
  have b2:Bl W (w.heap.size+1) 120 #[.bool false,.bool false,.bool false]:=by rw[<-hW];exact Bl.new' (by simp)
  unfold factV at HS;unfold factV;go_enter Tryz.func116,Tryz.ntmps116
  go_wp2_with (fail)
  have a0:=b1.c0;have a1:=b1.c1;have a2:=b1.c2;have l1:=b1.lt;have l2:=b2.lt;have HB:=Lib.hid hB;have B1:=Lib.hid b1;have B2:=Lib.hid b2;clear hW hB b1 b2
  go_region_with (go_at_call 147;(with_reducible refine(HS.out _).mono ?_);rintro e w4 ⟨rfl,hb⟩;have HB4:=Lib.hid ((HB.out.drew).trans (hb.mono HB.out.size));have b2:=B2.out.drew.below hb;have c0:=b2.c0;have c1:=b2.c1;have c2:=b2.c2;have cf:=b2.free;have b1:=B1.out.drew.below hb;have d2:=b1.c2;have B24:=Lib.hid b2;clear hb b1 b2)
  all_goals go_wp2
  all_goals
   have b2:=((B24.out.p0 (.bool f.fai)).p1 (.bool false)).p2 (.bool f.ok);have r0:=b2.c0;have r1:=b2.c1;have r2:=b2.c2;exact bodyPost_ret (v:=.agg #[.bool f.fai,.bool false,.bool f.ok]) (by simp[results,Tryz.results116,go_sem,r0,r1,r2]) rfl ⟨rfl,zay HB4.out (Nat.le_succ _) _ _ _⟩
def made5 (op:Int)(l:Nat)(rule:Int)(R:Nat)(z:Bool):Bool:=
 decide (0<=op)&&decide (op<=9)&&(if op<=2 then l == 0 else if op<=4 then decide (2<=l) else l == 1)&&(if op=2 then decide (0<=rule)&&decide (rule<R) else rule == 0)&&(op == 1 || z)
theorem zq5 (n:PN)(R:Nat):madeB n R=made5 n.op n.kids.length n.rule R (n.s0 == 0&&n.s1 == 0&&n.s2 == 0&&n.s3 == 0):=rfl
theorem zvw (x0 x1 x2 x3:Int):(x0 == 0&&x1 == 0&&x2 == 0&&x3 == 0)=(x0 == 0&&(x1 == 0&&(x2 == 0&&x3 == 0))):=by
 rw[Bool.and_assoc,Bool.and_assoc]
theorem zm0 {op:Int}{l:Nat}{rule:Int}{R:Nat}{z:Bool}(h:op<0):made5 op l rule R z=false:=by
 unfold made5;rw[decide_eq_false (by omega:¬0<=op)];rfl
theorem zjl {op:Int}{l:Nat}{rule:Int}{R:Nat}{z:Bool}(h:9<op):made5 op l rule R z=false:=by
 unfold made5;rw[decide_eq_false (by omega:¬op<=9),Bool.and_false];rfl
theorem zei {op:Int}{l:Nat}{rule:Int}{R:Nat}(h:op≠1):made5 op l rule R false=false:=by
 unfold made5;rw[zaj h];simp
theorem zdk {op:Int}{l:Nat}{rule:Int}{R:Nat}{z:Bool}(h:op≠2)(h2:rule≠0):made5 op l rule R z=false:=by
 unfold made5;rw[if_neg h,zaj h2];simp
theorem zev {l:Nat}{rule:Int}{R:Nat}{z:Bool}(h:rule<0∨(R:Int)<=rule):made5 2 l rule R z=false:=by
 have:(decide (0<=rule)&&decide (rule<(R:Int)))=false:=by
  rcases h with h|h
  ·rw[decide_eq_false (by omega:¬0<=rule)];rfl
  ·rw[decide_eq_false (by omega:¬rule<R),Bool.and_false]
 unfold made5;rw[if_pos rfl,this];simp
theorem zbk {op:Int}{l:Nat}{rule:Int}{R:Nat}{z:Bool}(h:op<=2)(h2:l≠0):made5 op l rule R z=false:=by
 have:(l == 0)=false:=by simpa using h2
 unfold made5;rw[if_pos h,this];simp
theorem zew {op:Int}{l:Nat}{rule:Int}{R:Nat}{z:Bool}(h:op=3∨op=4)(h2:l<2):made5 op l rule R z=false:=by
 unfold made5;rw[if_neg (by omega),if_pos (by omega),decide_eq_false (by omega:¬2<=l)];simp
theorem zf2 {op:Int}{l:Nat}{rule:Int}{R:Nat}{z:Bool}(h:5<=op)(h2:l≠1):made5 op l rule R z=false:=by
 have:(l == 1)=false:=by simpa using h2
 unfold made5;rw[if_neg (by omega),if_neg (by omega),this];simp
theorem zbu {op:Int}{l:Nat}{rule:Int}{R:Nat}{z:Bool}(h0:0<=op)(h9:op<=9)(hl:(op<=2->l=0)/\(2<op->op<=4->2<=l)/\(4<op->l=1))(hr:(op=2->0<=rule/\rule<R)/\(op≠2->rule=0))(hz:op=1∨z=true):made5 op l rule R z=true:=by
 unfold made5;have e1:(if op<=2 then l == 0 else if op<=4 then decide (2<=l) else l == 1)=true:=by
  by_cases a:op<=2
  ·rw[if_pos a];simpa using hl.1 a
  ·rw[if_neg a]
   by_cases b:op<=4
   ·rw[if_pos b];simpa using hl.2.1 (by omega) b
   ·rw[if_neg b];simpa using hl.2.2 (by omega)
 have e2:(if op=2 then decide (0<=rule)&&decide (rule<(R:Int)) else rule == 0)=true:=by
  by_cases a:op=2
  ·rw[if_pos a];simpa using hr.1 a
  ·rw[if_neg a];simpa using hr.2 a
 have e3:(op == 1 || z)=true:=by
  rcases hz with h|h
  ·subst h;rfl
  ·rw[h,Bool.or_true]
 rw[decide_eq_true h0,decide_eq_true h9,e1,e2,e3];rfl
def z4 (x0 x1 x2 x3:Int):Bool:=x0 == 0&&(x1 == 0&&(x2 == 0&&x3 == 0))
def PmIs (F:FuncId)(op:Int)(l:Nat)(rule x0 x1 x2 x3:Int)(R:Nat)(b:Bool):Prop:=
 ∀(ka:Option Addr) (kc:Nat) (w:World),l<=9223372036854775807->Calls Tryz.prog F #[.agg #[.int .i64 op,.slice ka l kc,.int .i64 rule,.int .u64 x0,.int .u64 x1,.int .u64 x2,.int .u64 x3],.int .i64 (R:Int)] w fun e w'=>e=.returned (.bool b)/\Below w.heap.size w w'
theorem sne {x0 x1 x2 x3:Int}{b:Bool}(hz:z4 x0 x1 x2 x3=b):Hid (∀w,(binOp .neq 49 (.agg #[.int .u64 x0,.int .u64 x1,.int .u64 x2,.int .u64 x3]) (.agg #[.int .u64 0,.int .u64 0,.int .u64 0,.int .u64 0])).run Tryz.prog w=.ok (.bool (!b)) w):=Lib.hid fun w=>by
 unfold z4 at hz;rw[zzz,hz]
theorem seq {x0 x1 x2 x3:Int}{b:Bool}(hz:z4 x0 x1 x2 x3=b):Hid (∀w,(binOp .eql 49 (.agg #[.int .u64 x0,.int .u64 x1,.int .u64 x2,.int .u64 x3]) (.agg #[.int .u64 0,.int .u64 0,.int .u64 0,.int .u64 0])).run Tryz.prog w=.ok (.bool b) w):=Lib.hid fun w=>by
 unfold z4 at hz;rw[zzy,hz]
section
variable {l:Nat} {rule x0 x1 x2 x3:Int} {R:Nat}
set_option maxHeartbeats 1000000
set_option maxRecDepth 100000
theorem zc7 {l:Nat}(h:2<=l):Hid ((((l:Int) != 0)=true/\((l:Int) != 1)=true/\((l:Int) == 0)=false)/\((l:Int) == 1)=false/\¬(l:Int)<2/\(2:Int)<=(l:Int)):=Lib.hid ⟨⟨zbx (by omega),zbx (by omega),zaj (by omega)⟩,zaj (by omega),by omega,by omega⟩
theorem zo0 {op:Int}(h:op<0∨9<op):Hid ((((op == 0)=false/\(op == 1)=false/\(op == 2)=false/\(op == 3)=false/\(op == 4)=false)/\(op == 5)=false/\(op == 6)=false/\(op == 7)=false/\(op == 8)=false/\(op == 9)=false)/\(op != 1)=true/\(op != 2)=true):=Lib.hid ⟨⟨⟨zaj (by omega),zaj (by omega),zaj (by omega),zaj (by omega),zaj (by omega)⟩,zaj (by omega),zaj (by omega),zaj (by omega),zaj (by omega),zaj (by omega)⟩,zbx (by omega),zbx (by omega)⟩
theorem z0j {op:Int}(hop:op<0∨9<op)(hz:z4 x0 x1 x2 x3=false):PmIs 129 op l rule x0 x1 x2 x3 R false:=by
 intro ka kc w _;have HS:=sne hz;clear hz;obtain⟨⟨⟨q0,q1,q2,q3,q4⟩,q5,q6,q7,q8,q9⟩,n1,n2⟩:=(zo0 hop).out;clear hop;go_enter Tryz.func129,Tryz.ntmps129
 go_wp2_with (with_reducible refine zah BinOp.neq 49 _ _ _ rfl rfl _ _ rfl rfl za4 _ (HS.out _) ?_)
 go_ret;exact⟨rfl,zab _ _⟩
theorem z0k {op:Int}(hop:op<0∨9<op)(hz:z4 x0 x1 x2 x3=true)(hr:(rule != 0)=true):PmIs 129 op l rule x0 x1 x2 x3 R false:=by
 intro ka kc w _;have HS:=sne hz;clear hz;obtain⟨⟨⟨q0,q1,q2,q3,q4⟩,q5,q6,q7,q8,q9⟩,n1,n2⟩:=(zo0 hop).out;clear hop;go_enter Tryz.func129,Tryz.ntmps129
 go_wp2_with (with_reducible refine zah BinOp.neq 49 _ _ _ rfl rfl _ _ rfl rfl za4 _ (HS.out _) ?_)
 go_ret;exact⟨rfl,zab _ _⟩
theorem z0l {op:Int}(hop:op<0∨9<op)(hz:z4 x0 x1 x2 x3=true)(hr:(rule != 0)=false):PmIs 129 op l rule x0 x1 x2 x3 R false:=by
 intro ka kc w _;have HS:=sne hz;clear hz;obtain⟨⟨⟨q0,q1,q2,q3,q4⟩,q5,q6,q7,q8,q9⟩,n1,n2⟩:=(zo0 hop).out;clear hop;go_enter Tryz.func129,Tryz.ntmps129
 go_wp2_with (with_reducible refine zah BinOp.neq 49 _ _ _ rfl rfl _ _ rfl rfl za4 _ (HS.out _) ?_)
 go_ret;exact⟨rfl,zab _ _⟩
theorem pm_s {op:Int}(ho:op=0∨op=2∨op=3∨op=4∨op=5∨op=6∨op=7∨op=8∨op=9)(hz:z4 x0 x1 x2 x3=false):PmIs 129 op l rule x0 x1 x2 x3 R false:=by
 intro ka kc w _;have HS:=sne hz;clear hz;rcases ho with rfl|rfl|rfl|rfl|rfl|rfl|rfl|rfl|rfl
 all_goals
  go_enter Tryz.func129,Tryz.ntmps129
  go_wp2_with (with_reducible refine zah BinOp.neq 49 _ _ _ rfl rfl _ _ rfl rfl za4 _ (HS.out _) ?_)
  go_ret;exact⟨rfl,zab _ _⟩
theorem pm_r {op:Int}(ho:op=0∨op=3∨op=4∨op=5∨op=6∨op=7∨op=8∨op=9)(hz:z4 x0 x1 x2 x3=true)(hr:(rule != 0)=true):PmIs 129 op l rule x0 x1 x2 x3 R false:=by
 intro ka kc w _;have HS:=sne hz;clear hz;rcases ho with rfl|rfl|rfl|rfl|rfl|rfl|rfl|rfl
 all_goals
  go_enter Tryz.func129,Tryz.ntmps129
  go_wp2_with (with_reducible refine zah BinOp.neq 49 _ _ _ rfl rfl _ _ rfl rfl za4 _ (HS.out _) ?_)
  go_ret;exact⟨rfl,zab _ _⟩
theorem pm_t0 (hz:z4 x0 x1 x2 x3=true)(k0:l=0)(hr:(rule != 0)=false):PmIs 129 0 l rule x0 x1 x2 x3 R true:=by
 intro ka kc w _;have HS:=sne hz;clear hz;subst k0;go_enter Tryz.func129,Tryz.ntmps129
 go_wp2_with (with_reducible refine zah BinOp.neq 49 _ _ _ rfl rfl _ _ rfl rfl za4 _ (HS.out _) ?_)
 go_ret;exact⟨rfl,zab _ _⟩
theorem pm_f0 {op:Int}(ho:op=3∨op=4∨op=5∨op=6∨op=7∨op=8∨op=9)(hz:z4 x0 x1 x2 x3=true)(k0:l=0)(hr:(rule != 0)=false):PmIs 129 op l rule x0 x1 x2 x3 R false:=by
 intro ka kc w _;have HS:=sne hz;clear hz;subst k0;rcases ho with rfl|rfl|rfl|rfl|rfl|rfl|rfl
 all_goals
  go_enter Tryz.func129,Tryz.ntmps129
  go_wp2_with (with_reducible refine zah BinOp.neq 49 _ _ _ rfl rfl _ _ rfl rfl za4 _ (HS.out _) ?_)
  go_ret;exact⟨rfl,zab _ _⟩
theorem pm_t1 {op:Int}(ho:op=5∨op=6∨op=7∨op=8∨op=9)(hz:z4 x0 x1 x2 x3=true)(k1:l=1)(hr:(rule != 0)=false):PmIs 129 op l rule x0 x1 x2 x3 R true:=by
 intro ka kc w _;have HS:=sne hz;clear hz;subst k1;rcases ho with rfl|rfl|rfl|rfl|rfl
 all_goals
  go_enter Tryz.func129,Tryz.ntmps129
  go_wp2_with (with_reducible refine zah BinOp.neq 49 _ _ _ rfl rfl _ _ rfl rfl za4 _ (HS.out _) ?_)
  go_ret;exact⟨rfl,zab _ _⟩
theorem pm_f1 {op:Int}(ho:op=0∨op=3∨op=4)(hz:z4 x0 x1 x2 x3=true)(k1:l=1)(hr:(rule != 0)=false):PmIs 129 op l rule x0 x1 x2 x3 R false:=by
 intro ka kc w _;have HS:=sne hz;clear hz;subst k1;rcases ho with rfl|rfl|rfl
 all_goals
  go_enter Tryz.func129,Tryz.ntmps129
  go_wp2_with (with_reducible refine zah BinOp.neq 49 _ _ _ rfl rfl _ _ rfl rfl za4 _ (HS.out _) ?_)
  go_ret;exact⟨rfl,zab _ _⟩
theorem pm_t2 {op:Int}(ho:op=3∨op=4)(hz:z4 x0 x1 x2 x3=true)(k2:2<=l)(hr:(rule != 0)=false):PmIs 129 op l rule x0 x1 x2 x3 R true:=by
 intro ka kc w _;have HS:=sne hz;clear hz;obtain⟨⟨m0,m1,m2⟩,m3,m4,m5⟩:=(zc7 k2).out;rcases ho with rfl|rfl
 all_goals
  go_enter Tryz.func129,Tryz.ntmps129
  go_wp2_with (with_reducible refine zah BinOp.neq 49 _ _ _ rfl rfl _ _ rfl rfl za4 _ (HS.out _) ?_)
  go_ret;exact⟨rfl,zab _ _⟩
theorem pm_f2 {op:Int}(ho:op=0∨op=5∨op=6∨op=7∨op=8∨op=9)(hz:z4 x0 x1 x2 x3=true)(k2:2<=l)(hr:(rule != 0)=false):PmIs 129 op l rule x0 x1 x2 x3 R false:=by
 intro ka kc w _;have HS:=sne hz;clear hz;obtain⟨⟨m0,m1,m2⟩,m3,m4,m5⟩:=(zc7 k2).out;rcases ho with rfl|rfl|rfl|rfl|rfl|rfl
 all_goals
  go_enter Tryz.func129,Tryz.ntmps129
  go_wp2_with (with_reducible refine zah BinOp.neq 49 _ _ _ rfl rfl _ _ rfl rfl za4 _ (HS.out _) ?_)
  go_ret;exact⟨rfl,zab _ _⟩
theorem pm_1r (hr:(rule != 0)=true):PmIs 129 1 l rule x0 x1 x2 x3 R false:=by
 intro ka kc w _;go_enter Tryz.func129,Tryz.ntmps129;go_wp2;go_ret;exact⟨rfl,zab _ _⟩
theorem pm_10 (k0:l=0)(hr:(rule != 0)=false):PmIs 129 1 l rule x0 x1 x2 x3 R true:=by
 intro ka kc w _;subst k0;go_enter Tryz.func129,Tryz.ntmps129;go_wp2;go_ret;exact⟨rfl,zab _ _⟩
theorem pm_11 (k1:l=1)(hr:(rule != 0)=false):PmIs 129 1 l rule x0 x1 x2 x3 R false:=by
 intro ka kc w _;subst k1;go_enter Tryz.func129,Tryz.ntmps129;go_wp2;go_ret;exact⟨rfl,zab _ _⟩
theorem pm_12 (k2:2<=l)(hr:(rule != 0)=false):PmIs 129 1 l rule x0 x1 x2 x3 R false:=by
 intro ka kc w _;obtain⟨⟨m0,m1,m2⟩,m3,m4,m5⟩:=(zc7 k2).out;go_enter Tryz.func129,Tryz.ntmps129;go_wp2;go_ret;exact⟨rfl,zab _ _⟩
theorem pm_2a (hz:z4 x0 x1 x2 x3=true)(k0:l=0)(hr:¬0<=rule):PmIs 129 2 l rule x0 x1 x2 x3 R false:=by
 intro ka kc w _;have HS:=sne hz;clear hz;subst k0;go_enter Tryz.func129,Tryz.ntmps129
 go_wp2_with (with_reducible refine zah BinOp.neq 49 _ _ _ rfl rfl _ _ rfl rfl za4 _ (HS.out _) ?_)
 go_ret;exact⟨rfl,zab _ _⟩
theorem pm_2b (hz:z4 x0 x1 x2 x3=true)(k0:l=0)(hr:0<=rule)(hR:¬rule<(R:Int)):PmIs 129 2 l rule x0 x1 x2 x3 R false:=by
 intro ka kc w _;have HS:=sne hz;clear hz;subst k0;go_enter Tryz.func129,Tryz.ntmps129
 go_wp2_with (with_reducible refine zah BinOp.neq 49 _ _ _ rfl rfl _ _ rfl rfl za4 _ (HS.out _) ?_)
 go_ret;exact⟨rfl,zab _ _⟩
theorem pm_20 (hz:z4 x0 x1 x2 x3=true)(k0:l=0)(hr:0<=rule)(hR:rule<(R:Int)):PmIs 129 2 l rule x0 x1 x2 x3 R true:=by
 intro ka kc w _;have HS:=sne hz;clear hz;subst k0;go_enter Tryz.func129,Tryz.ntmps129
 go_wp2_with (with_reducible refine zah BinOp.neq 49 _ _ _ rfl rfl _ _ rfl rfl za4 _ (HS.out _) ?_)
 go_ret;exact⟨rfl,zab _ _⟩
theorem pm_21 (hz:z4 x0 x1 x2 x3=true)(k1:l=1):PmIs 129 2 l rule x0 x1 x2 x3 R false:=by
 intro ka kc w _;have HS:=sne hz;clear hz;subst k1;go_enter Tryz.func129,Tryz.ntmps129
 go_wp2_with (with_reducible refine zah BinOp.neq 49 _ _ _ rfl rfl _ _ rfl rfl za4 _ (HS.out _) ?_)
 go_ret;exact⟨rfl,zab _ _⟩
theorem pm_22 (hz:z4 x0 x1 x2 x3=true)(k2:2<=l):PmIs 129 2 l rule x0 x1 x2 x3 R false:=by
 intro ka kc w _;have HS:=sne hz;clear hz;obtain⟨⟨m0,m1,m2⟩,m3,m4,m5⟩:=(zc7 k2).out;go_enter Tryz.func129,Tryz.ntmps129
 go_wp2_with (with_reducible refine zah BinOp.neq 49 _ _ _ rfl rfl _ _ rfl rfl za4 _ (HS.out _) ?_)
 go_ret;exact⟨rfl,zab _ _⟩
theorem z8e {op:Int}(hop:op<0):PmIs 100 op l rule x0 x1 x2 x3 R false:=by
 intro ka kc w _;go_enter Tryz.func100,Tryz.ntmps100;go_wp2;go_ret;exact⟨rfl,zab _ _⟩
theorem z5c {op:Int}(hop:9<op)(hop0:¬op<0):PmIs 100 op l rule x0 x1 x2 x3 R false:=by
 intro ka kc w _;go_enter Tryz.func100,Tryz.ntmps100;go_wp2;go_ret;exact⟨rfl,zab _ _⟩
theorem rm_f0 {op:Int}(ho:op=3∨op=4∨op=5∨op=6∨op=7∨op=8∨op=9)(k0:l=0):PmIs 100 op l rule x0 x1 x2 x3 R false:=by
 intro ka kc w _;subst k0;rcases ho with rfl|rfl|rfl|rfl|rfl|rfl|rfl
 all_goals
  go_enter Tryz.func100,Tryz.ntmps100;go_wp2;go_ret;exact⟨rfl,zab _ _⟩
theorem rm_r0 {op:Int}(ho:op=0∨op=1)(k0:l=0)(hr:(rule != 0)=true):PmIs 100 op l rule x0 x1 x2 x3 R false:=by
 intro ka kc w _;subst k0;rcases ho with rfl|rfl
 all_goals
  go_enter Tryz.func100,Tryz.ntmps100;go_wp2;go_ret;exact⟨rfl,zab _ _⟩
theorem rm_s0 (k0:l=0)(hr:(rule != 0)=false)(hz:z4 x0 x1 x2 x3=false):PmIs 100 0 l rule x0 x1 x2 x3 R false:=by
 intro ka kc w _;have HS:=seq hz;clear hz;subst k0;go_enter Tryz.func100,Tryz.ntmps100
 go_wp2_with (with_reducible refine zah BinOp.eql 49 _ _ _ rfl rfl _ _ rfl rfl za4 _ (HS.out _) ?_)
 go_ret;exact⟨rfl,zab _ _⟩
theorem rm_t0 (k0:l=0)(hr:(rule != 0)=false)(hz:z4 x0 x1 x2 x3=true):PmIs 100 0 l rule x0 x1 x2 x3 R true:=by
 intro ka kc w _;have HS:=seq hz;clear hz;subst k0;go_enter Tryz.func100,Tryz.ntmps100
 go_wp2_with (with_reducible refine zah BinOp.eql 49 _ _ _ rfl rfl _ _ rfl rfl za4 _ (HS.out _) ?_)
 go_ret;exact⟨rfl,zab _ _⟩
theorem rm_f1 {op:Int}(ho:op=0∨op=1∨op=2∨op=3∨op=4)(k1:l=1):PmIs 100 op l rule x0 x1 x2 x3 R false:=by
 intro ka kc w _;subst k1;rcases ho with rfl|rfl|rfl|rfl|rfl
 all_goals
  go_enter Tryz.func100,Tryz.ntmps100;go_wp2;go_ret;exact⟨rfl,zab _ _⟩
theorem rm_r1 {op:Int}(ho:op=5∨op=6∨op=7∨op=8∨op=9)(k1:l=1)(hr:(rule != 0)=true):PmIs 100 op l rule x0 x1 x2 x3 R false:=by
 intro ka kc w _;subst k1;rcases ho with rfl|rfl|rfl|rfl|rfl
 all_goals
  go_enter Tryz.func100,Tryz.ntmps100;go_wp2;go_ret;exact⟨rfl,zab _ _⟩
theorem rm_s1 {op:Int}(ho:op=5∨op=6∨op=7∨op=8∨op=9)(k1:l=1)(hr:(rule != 0)=false)(hz:z4 x0 x1 x2 x3=false):PmIs 100 op l rule x0 x1 x2 x3 R false:=by
 intro ka kc w _;have HS:=seq hz;clear hz;subst k1;rcases ho with rfl|rfl|rfl|rfl|rfl
 all_goals
  go_enter Tryz.func100,Tryz.ntmps100
  go_wp2_with (with_reducible refine zah BinOp.eql 49 _ _ _ rfl rfl _ _ rfl rfl za4 _ (HS.out _) ?_)
  go_ret;exact⟨rfl,zab _ _⟩
theorem rm_t1 {op:Int}(ho:op=5∨op=6∨op=7∨op=8∨op=9)(k1:l=1)(hr:(rule != 0)=false)(hz:z4 x0 x1 x2 x3=true):PmIs 100 op l rule x0 x1 x2 x3 R true:=by
 intro ka kc w _;have HS:=seq hz;clear hz;subst k1;rcases ho with rfl|rfl|rfl|rfl|rfl
 all_goals
  go_enter Tryz.func100,Tryz.ntmps100
  go_wp2_with (with_reducible refine zah BinOp.eql 49 _ _ _ rfl rfl _ _ rfl rfl za4 _ (HS.out _) ?_)
  go_ret;exact⟨rfl,zab _ _⟩
theorem rm_f2 {op:Int}(ho:op=0∨op=1∨op=2∨op=5∨op=6∨op=7∨op=8∨op=9)(k2:2<=l):PmIs 100 op l rule x0 x1 x2 x3 R false:=by
 intro ka kc w _;obtain⟨⟨m0,m1,m2⟩,m3,m4,m5⟩:=(zc7 k2).out;rcases ho with rfl|rfl|rfl|rfl|rfl|rfl|rfl|rfl
 all_goals
  go_enter Tryz.func100,Tryz.ntmps100;go_wp2;go_ret;exact⟨rfl,zab _ _⟩
theorem rm_r2 {op:Int}(ho:op=3∨op=4)(k2:2<=l)(hr:(rule != 0)=true):PmIs 100 op l rule x0 x1 x2 x3 R false:=by
 intro ka kc w _;obtain⟨⟨m0,m1,m2⟩,m3,m4,m5⟩:=(zc7 k2).out;rcases ho with rfl|rfl
 all_goals
  go_enter Tryz.func100,Tryz.ntmps100;go_wp2;go_ret;exact⟨rfl,zab _ _⟩
theorem rm_s2 {op:Int}(ho:op=3∨op=4)(k2:2<=l)(hr:(rule != 0)=false)(hz:z4 x0 x1 x2 x3=false):PmIs 100 op l rule x0 x1 x2 x3 R false:=by
 intro ka kc w _;have HS:=seq hz;clear hz;obtain⟨⟨m0,m1,m2⟩,m3,m4,m5⟩:=(zc7 k2).out;rcases ho with rfl|rfl
 all_goals
  go_enter Tryz.func100,Tryz.ntmps100
  go_wp2_with (with_reducible refine zah BinOp.eql 49 _ _ _ rfl rfl _ _ rfl rfl za4 _ (HS.out _) ?_)
  go_ret;exact⟨rfl,zab _ _⟩
theorem rm_t2 {op:Int}(ho:op=3∨op=4)(k2:2<=l)(hr:(rule != 0)=false)(hz:z4 x0 x1 x2 x3=true):PmIs 100 op l rule x0 x1 x2 x3 R true:=by
 intro ka kc w _;have HS:=seq hz;clear hz;obtain⟨⟨m0,m1,m2⟩,m3,m4,m5⟩:=(zc7 k2).out;rcases ho with rfl|rfl
 all_goals
  go_enter Tryz.func100,Tryz.ntmps100
  go_wp2_with (with_reducible refine zah BinOp.eql 49 _ _ _ rfl rfl _ _ rfl rfl za4 _ (HS.out _) ?_)
  go_ret;exact⟨rfl,zab _ _⟩
theorem rm_10 (k0:l=0)(hr:(rule != 0)=false):PmIs 100 1 l rule x0 x1 x2 x3 R true:=by
 intro ka kc w _;subst k0;go_enter Tryz.func100,Tryz.ntmps100;go_wp2;go_ret;exact⟨rfl,zab _ _⟩
theorem rm_2a (k0:l=0)(hr:rule<0):PmIs 100 2 l rule x0 x1 x2 x3 R false:=by
 intro ka kc w _;subst k0;go_enter Tryz.func100,Tryz.ntmps100;go_wp2;go_ret;exact⟨rfl,zab _ _⟩
theorem rm_2b (k0:l=0)(hr:¬rule<0)(hR:(R:Int)<=rule):PmIs 100 2 l rule x0 x1 x2 x3 R false:=by
 intro ka kc w _;subst k0;go_enter Tryz.func100,Tryz.ntmps100;go_wp2;go_ret;exact⟨rfl,zab _ _⟩
theorem rm_2s (k0:l=0)(hr:¬rule<0)(hR:¬(R:Int)<=rule)(hz:z4 x0 x1 x2 x3=false):PmIs 100 2 l rule x0 x1 x2 x3 R false:=by
 intro ka kc w _;have HS:=seq hz;clear hz;subst k0;go_enter Tryz.func100,Tryz.ntmps100
 go_wp2_with (with_reducible refine zah BinOp.eql 49 _ _ _ rfl rfl _ _ rfl rfl za4 _ (HS.out _) ?_)
 go_ret;exact⟨rfl,zab _ _⟩
theorem rm_20 (k0:l=0)(hr:¬rule<0)(hR:¬(R:Int)<=rule)(hz:z4 x0 x1 x2 x3=true):PmIs 100 2 l rule x0 x1 x2 x3 R true:=by
 intro ka kc w _;have HS:=seq hz;clear hz;subst k0;go_enter Tryz.func100,Tryz.ntmps100
 go_wp2_with (with_reducible refine zah BinOp.eql 49 _ _ _ rfl rfl _ _ rfl rfl za4 _ (HS.out _) ?_)
 go_ret;exact⟨rfl,zab _ _⟩
end
theorem z8f (op:Int)(ka:Option Addr)(l kc:Nat)(rule x0 x1 x2 x3:Int)(R:Nat)(w:World)(hl:l<=9223372036854775807) :
  Calls Tryz.prog 129 #[.agg #[.int .i64 op,.slice ka l kc,.int .i64 rule,.int .u64 x0,.int .u64 x1,.int .u64 x2,.int .u64 x3],.int .i64 (R:Int)] w fun e w'=>e=.returned (.bool (made5 op l rule R (x0 == 0&&(x1 == 0&&(x2 == 0&&x3 == 0)))))/\Below w.heap.size w w':=by
 refine(?_:PmIs 129 op l rule x0 x1 x2 x3 R (made5 op l rule R (z4 x0 x1 x2 x3))) ka kc w hl;clear hl w kc ka;have hrr:(rule != 0)=false/\rule=0∨(rule != 0)=true/\rule≠0:=by
  by_cases h:rule=0
  ·exact .inl ⟨by rw[h];rfl,h⟩
  ·exact .inr ⟨zbx h,h⟩
 have hk:l=0∨l=1∨2<=l:=by omega
 by_cases hout:op<0∨9<op
 ·have e:made5 op l rule R (z4 x0 x1 x2 x3)=false:=hout.elim zm0 zjl
  rw[e];cases hz:z4 x0 x1 x2 x3 with
  |false=>exact z0j hout hz
  |true=>
   rcases hrr with⟨hr,-⟩|⟨hr,-⟩
   ·exact z0l hout hz hr
   ·exact z0k hout hz hr
 by_cases h1:op=1
 ·subst h1
  rcases hrr with⟨hr,hr0⟩|⟨hr,hr0⟩
  ·rcases hk with hk|hk|hk
   ·rw[zbu (by omega) (by omega) (by omega) (by omega) (Or.inl rfl)];exact pm_10 hk hr
   ·rw[zbk (by omega) (by omega)];exact pm_11 hk hr
   ·rw[zbk (by omega) (by omega)];exact pm_12 hk hr
  ·rw[zdk (by omega) hr0];exact pm_1r hr
 cases hz:z4 x0 x1 x2 x3 with
 |false=>rw[zei h1];exact pm_s (by omega) hz
 |true=>
 by_cases h2:op=2
 ·subst h2
  rcases hk with hk|hk|hk
  ·by_cases hr:0<=rule
   ·by_cases hR:rule<(R:Int)
    ·rw[zbu (by omega) (by omega) (by omega) (by omega) (Or.inr rfl)];exact pm_20 hz hk hr hR
    ·rw[zev (by omega)];exact pm_2b hz hk hr hR
   ·rw[zev (by omega)];exact pm_2a hz hk hr
  ·rw[zbk (by omega) (by omega)];exact pm_21 hz hk
  ·rw[zbk (by omega) (by omega)];exact pm_22 hz hk
 rcases hrr with⟨hr,hr0⟩|⟨hr,hr0⟩
 case inr=>rw[zdk h2 hr0];exact pm_r (by omega) hz hr
 rcases(by omega:op=0∨(op=3∨op=4)∨5<=op) with ho|ho|ho
 ·rcases hk with hk|hk|hk
  ·subst ho;rw[zbu (by omega) (by omega) (by omega) (by omega) (Or.inr rfl)];exact pm_t0 hz hk hr
  ·rw[zbk (by omega) (by omega)];exact pm_f1 (by omega) hz hk hr
  ·rw[zbk (by omega) (by omega)];exact pm_f2 (by omega) hz hk hr
 ·rcases hk with hk|hk|hk
  ·rw[zew (by omega) (by omega)];exact pm_f0 (by omega) hz hk hr
  ·rw[zew (by omega) (by omega)];exact pm_f1 (by omega) hz hk hr
  ·rw[zbu (by omega) (by omega) (by omega) (by omega) (Or.inr rfl)];exact pm_t2 (by omega) hz hk hr
 ·rcases hk with hk|hk|hk
  ·rw[zf2 (by omega) (by omega)];exact pm_f0 (by omega) hz hk hr
  ·rw[zbu (by omega) (by omega) (by omega) (by omega) (Or.inr rfl)];exact pm_t1 (by omega) hz hk hr
  ·rw[zf2 (by omega) (by omega)];exact pm_f2 (by omega) hz hk hr
theorem z8g (op:Int)(ka:Option Addr)(l kc:Nat)(rule x0 x1 x2 x3:Int)(R:Nat)(w:World)(hl:l<=9223372036854775807) :
  Calls Tryz.prog 100 #[.agg #[.int .i64 op,.slice ka l kc,.int .i64 rule,.int .u64 x0,.int .u64 x1,.int .u64 x2,.int .u64 x3],.int .i64 (R:Int)] w fun e w'=>e=.returned (.bool (made5 op l rule R (x0 == 0&&(x1 == 0&&(x2 == 0&&x3 == 0)))))/\Below w.heap.size w w':=by
 refine(?_:PmIs 100 op l rule x0 x1 x2 x3 R (made5 op l rule R (z4 x0 x1 x2 x3))) ka kc w hl;clear hl w kc ka;have hrr:(rule != 0)=false/\rule=0∨(rule != 0)=true/\rule≠0:=by
  by_cases h:rule=0
  ·exact .inl ⟨by rw[h];rfl,h⟩
  ·exact .inr ⟨zbx h,h⟩
 have hk:l=0∨l=1∨2<=l:=by omega
 by_cases h0:op<0
 ·rw[zm0 h0];exact z8e h0
 by_cases h9:9<op
 ·rw[zjl h9];exact z5c h9 h0
 by_cases h2:op=2
 ·subst h2
  rcases hk with hk|hk|hk
  ·by_cases hr:rule<0
   ·rw[zev (by omega)];exact rm_2a hk hr
   ·by_cases hR:(R:Int)<=rule
    ·rw[zev (by omega)];exact rm_2b hk hr hR
    ·cases hz:z4 x0 x1 x2 x3 with
     |false=>rw[zei (by omega)];exact rm_2s hk hr hR hz
     |true=>rw[zbu (by omega) (by omega) (by omega) (by omega) (Or.inr rfl)];exact rm_20 hk hr hR hz
  ·rw[zbk (by omega) (by omega)];exact rm_f1 (by omega) hk
  ·rw[zbk (by omega) (by omega)];exact rm_f2 (by omega) hk
 rcases(by omega:(op=0∨op=1)∨(op=3∨op=4)∨5<=op) with ho|ho|ho
 ·rcases hk with hk|hk|hk
  ·rcases hrr with⟨hr,hr0⟩|⟨hr,hr0⟩
   case inr=>rw[zdk h2 hr0];exact rm_r0 (by omega) hk hr
   by_cases h1:op=1
   ·subst h1;rw[zbu (by omega) (by omega) (by omega) (by omega) (Or.inl rfl)];exact rm_10 hk hr
   obtain rfl:op=0:=by omega
   cases hz:z4 x0 x1 x2 x3 with
   |false=>rw[zei (by omega)];exact rm_s0 hk hr hz
   |true=>rw[zbu (by omega) (by omega) (by omega) (by omega) (Or.inr rfl)];exact rm_t0 hk hr hz
  ·rw[zbk (by omega) (by omega)];exact rm_f1 (by omega) hk
  ·rw[zbk (by omega) (by omega)];exact rm_f2 (by omega) hk
 ·rcases hk with hk|hk|hk
  ·rw[zew (by omega) (by omega)];exact rm_f0 (by omega) hk
  ·rw[zew (by omega) (by omega)];exact rm_f1 (by omega) hk
  ·rcases hrr with⟨hr,hr0⟩|⟨hr,hr0⟩
   case inr=>rw[zdk h2 hr0];exact rm_r2 (by omega) hk hr
   cases hz:z4 x0 x1 x2 x3 with
   |false=>rw[zei (by omega)];exact rm_s2 (by omega) hk hr hz
   |true=>rw[zbu (by omega) (by omega) (by omega) (by omega) (Or.inr rfl)];exact rm_t2 (by omega) hk hr hz
 ·rcases hk with hk|hk|hk
  ·rw[zf2 (by omega) (by omega)];exact rm_f0 (by omega) hk
  ·rcases hrr with⟨hr,hr0⟩|⟨hr,hr0⟩
   case inr=>rw[zdk h2 hr0];exact rm_r1 (by omega) hk hr
   cases hz:z4 x0 x1 x2 x3 with
   |false=>rw[zei (by omega)];exact rm_s1 (by omega) hk hr hz
   |true=>rw[zbu (by omega) (by omega) (by omega) (by omega) (Or.inr rfl)];exact rm_t1 (by omega) hk hr hz
  ·rw[zf2 (by omega) (by omega)];exact rm_f2 (by omega) hk
theorem zbv (w:World)(o o' o'':Obj):Below w.heap.size w (((w.alloc o).alloc o').alloc o''):=zar (zat w o o')
theorem zq6 (n:PN):zeroS n=z4 n.s0 n.s1 n.s2 n.s3:=by
 unfold zeroS z4;rw[Bool.eq_iff_iff];simp
structure NodeOk (n:PN):Prop where
 lo:0<=n.op
 hi:n.op<=9
 one:5<=n.op->∃k,n.kids=[k]
theorem zgm {rs:List PR}{n:PN}{l:List Fc}{k:Int}(h:5<=n.op)(hk:n.kids=[k]):nodeF rs n l=singF n.op (atF l k):=by
 unfold nodeF;rw[if_neg (by omega),if_neg (by omega),if_neg (by omega),if_neg (by omega),if_neg (by omega),hk];rfl
theorem zs4 (rv nv v:Value)(rs:List PR)(ns:List PN)(l:List Fc)(i:Nat)(n:PN)(w:World)(hR:RulesIn w rv rs)(hN:NodesAt w nv ns)(hF:FactsAt w v l)(hn:ns[i]?=some n)(hO:NodeOk n) :
  Calls Tryz.prog 78 #[.agg #[rv,nv],.int .i64 (i:Int),v] w fun e w'=>e=.returned (factV (nodeF rs n l))/\Below w.heap.size w w':=by
 obtain⟨-,na,nc,rfl,hna⟩:=id hN;have hil:=(List.getElem?_eq_some_iff.1 hn).1;rcases hna with h0|⟨nb,no,rfl,hca⟩
 ·rw[h0] at hil;exact absurd hil (Nat.not_lt_zero _)
 obtain⟨kv,c0,c1,c2,c3,c4,c5,c6,hk,hkl⟩:=hca i n hn;have lr:=zac c0;have k1:(i:Int)<(ns.length:Int):=by omega
 obtain⟨ka,kc,rfl,-⟩:=id hk;obtain⟨x0,x1,x5⟩:=hO;by_cases e0:n.op=0
 ·rw[e0] at c0
  have hv:nodeF rs n l=⟨true,false,false⟩:=by unfold nodeF;rw[if_pos e0]
  rw[hv];obtain⟨-,ra,rc,rfl,-⟩:=id hR;clear hR hN hF hca hk x0 x1 x5 hv;go_enter Tryz.func78,Tryz.ntmps78;go_wp2;exact bodyPost_ret (v:=factV ⟨true,false,false⟩) (by simp[results,Tryz.results78,go_sem,factV]) rfl ⟨rfl,zbv _ _ _ _⟩
 by_cases e1:n.op=1
 ·rw[e1] at c0
  have hv:nodeF rs n l=⟨false,!zeroS n,true⟩:=by unfold nodeF;rw[if_neg e0,if_pos e1]
  rw[hv];have HS:=sne (zq6 n).symm;generalize zeroS n=z at *;obtain⟨-,ra,rc,rfl,-⟩:=id hR;clear hR hN hF hca hk x0 x1 x5 hv;go_enter Tryz.func78,Tryz.ntmps78
  go_wp2_with (with_reducible refine zah BinOp.neq 49 _ _ _ rfl rfl _ _ rfl rfl za4 _ (HS.out _) ?_)
  exact bodyPost_ret (v:=factV ⟨false,!z,true⟩) (by simp[results,Tryz.results78,go_sem,factV]) rfl ⟨rfl,zbv _ _ _ _⟩
 by_cases e2:n.op=2
 ·rw[e2] at c0
  have hv:nodeF rs n l=atF l (rootF rs n.rule):=by unfold nodeF;rw[if_neg e0,if_neg e1,if_pos e2]
  rw[hv];have HR:=Lib.hid (fun(W:World) (hb:Below w.heap.size w W)=>zmy rv (.slice (some ⟨nb,no,none⟩) ns.length nc) rs n.rule W (hR.kept hb (Nat.le_refl _)));have HF:=Lib.hid (fun(W:World) (hb:Below w.heap.size w W)=>zlb v l (rootF rs n.rule) W (hF.kept hb (Nat.le_refl _)));generalize atF l (rootF rs n.rule)=f at *;generalize rootF rs n.rule=r at *;obtain⟨-,ra,rc,rfl,-⟩:=id hR;unfold factV at HF;clear hR hN hF hca hk x0 x1 x5 hv;go_enter Tryz.func78,Tryz.ntmps78
  go_wp2_with (first
   |(go_at_call 112;(with_reducible refine(HR.out _ (zbv _ _ _ _)).mono ?_);rintro e w4 ⟨rfl,hb⟩;have HB:=Lib.hid (bl_on (zbv w _ _ _) hb);have b1:=(Bl.past (Bl.new' (w:=w.alloc _) (B:=w.heap.size+1) (cs:=#[.bool false,.bool false,.bool false]) (t:=120) (by simp))).below hb;have B1:=Lib.hid b1;clear hb b1)
   |(go_at_call 113;(with_reducible refine(HF.out _ HB.out).mono ?_);rintro e w5 ⟨rfl,hb⟩;have HB2:=Lib.hid (bl_on HB.out hb);have b1:=B1.out.below hb;have a0:=b1.c0;have a1:=b1.c1;have a2:=b1.c2;have af:=b1.free;have D0:=Lib.hid b1;clear hb b1))
  have d:=((D0.out.p0 (.bool f.nul)).p1 (.bool f.eat)).p2 (.bool f.fai);have k0:=d.c0;have k1:=d.c1;have k2:=d.c2;exact bodyPost_ret (v:=factV f) (by simp[results,Tryz.results78,go_sem,factV,k0,k1,k2]) rfl ⟨rfl,zay HB2.out (Nat.le_succ _) _ _ _⟩
 by_cases e3:n.op=3
 ·rw[e3] at c0
  have hv:nodeF rs n l=seqF (n.kids.map (atF l)):=by unfold nodeF;rw[if_neg e0,if_neg e1,if_neg e2,if_pos e3]
  rw[hv];have HF:=Lib.hid (fun(W:World) (hb:Below w.heap.size w W)=>z0h _ v n.kids l W (hk.kept hb (Nat.le_refl _)) hkl (hF.kept hb (Nat.le_refl _)));generalize seqF (n.kids.map (atF l))=f at *;obtain⟨-,ra,rc,rfl,-⟩:=id hR;unfold factV at HF;clear hR hN hF hca hk x0 x1 x5 hv;go_enter Tryz.func78,Tryz.ntmps78
  go_wp2_with (go_at_call 114;(with_reducible refine(HF.out _ (zbv _ _ _ _)).mono ?_);rintro e w4 ⟨rfl,hb⟩;have HB2:=Lib.hid (bl_on (zbv w _ _ _) hb);have b1:=(Bl.past (Bl.new' (w:=w.alloc _) (B:=w.heap.size+1) (cs:=#[.bool false,.bool false,.bool false]) (t:=120) (by simp))).below hb;have a0:=b1.c0;have a1:=b1.c1;have a2:=b1.c2;have af:=b1.free;have D0:=Lib.hid b1;clear hb b1)
  have d:=((D0.out.p0 (.bool f.nul)).p1 (.bool f.eat)).p2 (.bool f.fai);have k0:=d.c0;have k1:=d.c1;have k2:=d.c2;exact bodyPost_ret (v:=factV f) (by simp[results,Tryz.results78,go_sem,factV,k0,k1,k2]) rfl ⟨rfl,zay HB2.out (Nat.le_succ _) _ _ _⟩
 by_cases e4:n.op=4
 ·rw[e4] at c0
  have hv:nodeF rs n l=choF (n.kids.map (atF l)):=by unfold nodeF;rw[if_neg e0,if_neg e1,if_neg e2,if_neg e3,if_pos e4]
  rw[hv];have HF:=Lib.hid (fun(W:World) (hb:Below w.heap.size w W)=>z0i _ v n.kids l W (hk.kept hb (Nat.le_refl _)) hkl (hF.kept hb (Nat.le_refl _)));generalize choF (n.kids.map (atF l))=f at *;obtain⟨-,ra,rc,rfl,-⟩:=id hR;unfold factV at HF;clear hR hN hF hca hk x0 x1 x5 hv;go_enter Tryz.func78,Tryz.ntmps78
  go_wp2_with (go_at_call 115;(with_reducible refine(HF.out _ (zbv _ _ _ _)).mono ?_);rintro e w4 ⟨rfl,hb⟩;have HB2:=Lib.hid (bl_on (zbv w _ _ _) hb);have b1:=(Bl.past (Bl.new' (w:=w.alloc _) (B:=w.heap.size+1) (cs:=#[.bool false,.bool false,.bool false]) (t:=120) (by simp))).below hb;have a0:=b1.c0;have a1:=b1.c1;have a2:=b1.c2;have af:=b1.free;have D0:=Lib.hid b1;clear hb b1)
  have d:=((D0.out.p0 (.bool f.nul)).p1 (.bool f.eat)).p2 (.bool f.fai);have k0:=d.c0;have k1:=d.c1;have k2:=d.c2;exact bodyPost_ret (v:=factV f) (by simp[results,Tryz.results78,go_sem,factV,k0,k1,k2]) rfl ⟨rfl,zay HB2.out (Nat.le_succ _) _ _ _⟩
 have h5:5<=n.op:=by omega
 obtain⟨x,hx⟩:=x5 h5;rw[zgm h5 hx];have HF:=Lib.hid (fun(W:World) (hb:Below w.heap.size w W)=>zlb v l x W (hF.kept hb (Nat.le_refl _)));have HG:=Lib.hid (fun(W:World)=>zvv n.op (atF l x) W h5 x1);obtain⟨ka',kc',e,hki⟩:=hk;injection e with e6 e7 e8;subst e6 e8;rw[hx] at hki;rcases hki with h|⟨kb,ko,rfl,hkc⟩
 ·cases h
 have kx:=hkc 0 x rfl;rw[Nat.add_zero] at kx;have lk:=zac kx;rw[hx] at c1;generalize atF l x=f at *;generalize hfg:singF n.op f=g at *;obtain⟨-,ra,rc,rfl,-⟩:=id hR;have q0:(n.op == 0)=false:=zaj e0;have q1:(n.op == 1)=false:=zaj e1;have q2:(n.op == 2)=false:=zaj e2;have q3:(n.op == 3)=false:=zaj e3;have q4:(n.op == 4)=false:=zaj e4;unfold factV at HF HG;clear hR hN hF hca hkc x0 x1 x5 e0 e1 e2 e3 e4 h5 hkl hfg hx;generalize n.op=op at *;go_enter Tryz.func78,Tryz.ntmps78
 go_wp2_with (fail)
 generalize hW:World.alloc (World.alloc _ _) _=W;have d0:Bl W (w.heap.size+1) 120 #[.bool false,.bool false,.bool false]:=by rw[<-hW];exact Bl.past (Bl.new' (by simp))
 have d1:Bl W (w.heap.size+1+1) 51 #[.int .i64 op,.slice (some ⟨kb,ko,none⟩) 1 kc,.int .i64 n.rule,.int .u64 n.s0,.int .u64 n.s1,.int .u64 n.s2,.int .u64 n.s3]:=by rw[<-hW];exact Bl.new' (by simp)
 have dB:Below w.heap.size w W:=by rw[<-hW];exact zbv _ _ _ _
 have p0:W.cell? ⟨w.heap.size+1+1,0,none⟩=some (.int .i64 op):=d1.cell (o:=0) rfl;have p1:W.cell? ⟨w.heap.size+1+1,1,none⟩=some (.slice (some ⟨kb,ko,none⟩) 1 kc):=d1.cell (o:=1) rfl;have px:W.cell? ⟨kb,ko,none⟩=some (.int .i64 x):=by rw[(bcell dB).1 _ _ lk];exact kx
 have l1:=d1.lt;have l0:=d0.lt;have D0:=Lib.hid d0;have D1:=Lib.hid d1;have DB:=Lib.hid dB;clear hW d0 d1 dB c0 c1 c2 c3 c4 c5 c6 kx lr
 go_region_with (first
  |(go_at_call 113;(with_reducible refine(HF.out _ (Below.drew DB.out)).mono ?_);rintro e w4 ⟨rfl,hb⟩;have HB:=Lib.hid (bl_on (Below.drew DB.out) hb);have b0:=D0.out.drew.below hb;have b1:=D1.out.drew.below hb;have t0:w4.cell? ⟨w.heap.size+1+1,0,none⟩=some (.int .i64 op):=b1.cell (o:=0) rfl;have B0:=Lib.hid b0;clear hb b0 b1)
  |(go_at_call 116;(with_reducible refine(HG.out _).mono ?_);rintro e w5 ⟨rfl,hb⟩;have HB2:=Lib.hid (bl_on HB.out hb);have b0:=B0.out.below hb;have a0:=b0.c0;have a1:=b0.c1;have a2:=b0.c2;have af:=b0.free;have E0:=Lib.hid b0;clear hb b0))
 all_goals go_wp2
 all_goals
  have d:=((E0.out.p0 (.bool g.nul)).p1 (.bool g.eat)).p2 (.bool g.fai);have k0:=d.c0;have k1:=d.c1;have k2:=d.c2;exact bodyPost_ret (v:=factV g) (by simp[results,Tryz.results78,go_sem,factV,k0,k1,k2]) rfl ⟨rfl,zay HB2.out (Nat.le_succ _) _ _ _⟩
def FBk (w:World)(b:Nat)(t:TypeId)(l:List Fc):Prop:=∃cs,Bl w b t cs/\∀i f,l[i]?=some f->cs[i*3]?=some (.bool f.nul)/\cs[i*3+1]?=some (.bool f.eat)/\cs[i*3+2]?=some (.bool f.fai)
theorem FBk.below {w w':World}{b:Nat}{t:TypeId}{l:List Fc}(h:FBk w b t l)(hb:Below w.heap.size w w'):FBk w' b t l:=by obtain⟨cs,h1,h2⟩:=h;exact⟨cs,h1.below hb,h2⟩
theorem FBk.past {w:World}{b:Nat}{t:TypeId}{l:List Fc}{o:Obj}(h:FBk w b t l):FBk (w.alloc o) b t l:=h.below (zab w o)
theorem FBk.off {w:World}{b c o:Nat}{t:TypeId}{l:List Fc}{v:Value}(h:FBk w b t l)(hc:b≠c):FBk (w.setCell ⟨c,o,none⟩ v) b t l:=by obtain⟨cs,h1,h2⟩:=h;exact⟨cs,h1.off hc,h2⟩
theorem FBk.drew {w:World}{b:Nat}{t:TypeId}{l:List Fc}(h:FBk w b t l):FBk w.drew b t l:=h
theorem FBk.lt {w:World}{b:Nat}{t:TypeId}{l:List Fc}(h:FBk w b t l):b<w.heap.size:=by obtain⟨cs,h1,h2⟩:=h;exact h1.lt
theorem FBk.free {w:World}{b:Nat}{t:TypeId}{l:List Fc}(h:FBk w b t l)(o:Nat):w.frozen? ⟨b,o,none⟩=false:=by obtain⟨cs,h1,h2⟩:=h;exact h1.free o
theorem FBk.at {w:World}{b i:Nat}{t:TypeId}{l:List Fc}{f:Fc}(h:FBk w b t l)(hi:l[i]?=some f):FactAt w b (i*3) f:=by
 obtain⟨cs,h1,h2⟩:=h;obtain⟨a0,a1,a2⟩:=h2 i f hi;exact⟨h1.cell a0,h1.cell a1,h1.cell a2⟩
theorem FBk.facts {w:World}{b c:Nat}{t:TypeId}{l:List Fc}(h:FBk w b t l)(hl:l.length<=maxLen):FactsAt w (.slice (some ⟨b,0,none⟩) l.length c) l:=
 ⟨hl,_,_,rfl,.inr ⟨b,0,rfl,fun i f hi=>by rw[Nat.zero_add];exact h.at hi⟩⟩
theorem zvx {n b o o' o'':Nat}{w w':World}(h:Below n w w')(hb:n<=b)(x y z:Value):Below n w (((w'.setCell ⟨b,o,none⟩ x).setCell ⟨b,o',none⟩ y).setCell ⟨b,o'',none⟩ z):=
 ((h.setCell (p:=⟨b,o,none⟩) hb x).setCell (p:=⟨b,o',none⟩) hb y).setCell (p:=⟨b,o'',none⟩) hb z
theorem FBk.put {w:World}{b i:Nat}{t:TypeId}{l:List Fc}{f:Fc}(h:FBk w b t l)(hi:i<l.length) :
  FBk (((w.setCell ⟨b,i*3,none⟩ (.bool f.nul)).setCell ⟨b,i*3+1,none⟩ (.bool f.eat)).setCell ⟨b,i*3+2,none⟩ (.bool f.fai)) b t (l.set i f):=by
 obtain⟨cs,h1,h2⟩:=h;refine⟨_,((h1.set' _).set' _).set' _,fun j g hj=>?_⟩;obtain⟨y,hy⟩:∃y,l[i]?=some y:=⟨_,List.getElem?_eq_getElem hi⟩;obtain⟨b0,b1,b2⟩:=h2 i y hy;have z0:=(Array.getElem?_eq_some_iff.1 b0).1;have z1:=(Array.getElem?_eq_some_iff.1 b1).1;have z2:=(Array.getElem?_eq_some_iff.1 b2).1;by_cases e:i=j
 ·subst e
  rw[List.getElem?_set_self hi] at hj;obtain rfl:=Option.some.inj hj;refine⟨?_,?_,?_⟩
  ·rw[Array.getElem?_setIfInBounds_ne (by omega),Array.getElem?_setIfInBounds_ne (by omega),Array.getElem?_setIfInBounds_self_of_lt (by simpa using z0)]
  ·rw[Array.getElem?_setIfInBounds_ne (by omega),Array.getElem?_setIfInBounds_self_of_lt (by simpa using z1)]
  ·rw[Array.getElem?_setIfInBounds_self_of_lt (by simpa using z2)]
 ·rw[List.getElem?_set_ne e] at hj
  obtain⟨a0,a1,a2⟩:=h2 j g hj;refine⟨?_,?_,?_⟩
  ·rw[Array.getElem?_setIfInBounds_ne (by omega),Array.getElem?_setIfInBounds_ne (by omega),Array.getElem?_setIfInBounds_ne (by omega)];exact a0
  ·rw[Array.getElem?_setIfInBounds_ne (by omega),Array.getElem?_setIfInBounds_ne (by omega),Array.getElem?_setIfInBounds_ne (by omega)];exact a1
  ·rw[Array.getElem?_setIfInBounds_ne (by omega),Array.getElem?_setIfInBounds_ne (by omega),Array.getElem?_setIfInBounds_ne (by omega)];exact a2
theorem zvy:(Tryz.prog.info? 120).map (fun i=>(i.zero,i.size,i.bytes))=some (some (.agg #[.bool false,.bool false,.bool false]),3,3):=by kernel_rfl
theorem zi2 (kl kc:IntKind)(n:Nat)(hn:n<=1000000)(w:World) :
  (Instr.makeSlice 72 (.int kl (n:Int)) (.int kc (n:Int))).run Tryz.prog w=.ok (.slice (some ⟨w.heap.size,0,none⟩) n n) (w.alloc (.cells (madeCells #[.bool false,.bool false,.bool false] (n*3)) 120)):=by
 obtain⟨i,hi,hz,hs,hb⟩:=info_parts zvy;have hr:=run_make (P:=Tryz.prog) w 72 120 i _ Tryz.underlying72 hi hz kl kc n n (by omega) (Int.le_refl _) (by rw[hb];omega) (by omega);simp only[Int.toNat_natCast,hs] at hr;exact hr
theorem FBk.made (w:World)(n:Nat)(t:TypeId):FBk (w.alloc (.cells (madeCells #[.bool false,.bool false,.bool false] (n*3)) t)) w.heap.size t (List.replicate n fc0):=by
 refine⟨_,Bl.new w t _,fun i f hi=>?_⟩;rw[List.getElem?_replicate] at hi;split at hi
 ·rename_i hin
  obtain rfl:=Option.some.inj hi;have key:∀j,j<n*3->(madeCells #[.bool false,.bool false,.bool false] (n*3))[j]?=some (.bool false):=fun j hj=>by
   have h3:j%3=0∨j%3=1∨j%3=2:=by omega
   rcases h3 with h3|h3|h3<;>simp[madeCells,hj,h3]
  exact⟨key _ (by omega),key _ (by omega),key _ (by omega)⟩
 ·cases hi
def SoFar (l m:List Fc)(k:Nat):Prop:=m.length=l.length/\∀j,j<k->m[j]?=l[j]?
theorem SoFar.step {l m:List Fc}{k:Nat}{x:Fc}(h:SoFar l m k)(hx:l[k]?=some x):SoFar l (m.set k x) (k+1):=by
 have hk:=(List.getElem?_eq_some_iff.1 hx).1;refine⟨by rw[List.length_set];exact h.1,fun j hj=>?_⟩;by_cases e:k=j
 ·subst e;rw[List.getElem?_set_self (by rw[h.1];exact hk),hx]
 ·rw[List.getElem?_set_ne e];exact h.2 j (by omega)
theorem SoFar.done {l m:List Fc}(h:SoFar l m l.length):m=l:=by
 refine List.ext_getElem? fun j=>?_
 rcases Nat.lt_or_ge j l.length with hj|hj
 ·exact h.2 j hj
 ·rw[List.getElem?_eq_none hj,List.getElem?_eq_none (by rw[h.1];exact hj)]
def NewF (l:List Fc)(w:World)(e:Ending)(w':World):Prop:=∃a c,e=.returned (.slice a l.length c)/\FactsAt w' (.slice a l.length c) l/\Below w.heap.size w w'
structure NodeIn (rs:List PR) (L:Nat) (n:PN):Prop where
 ok:NodeOk n
 kid:∀k,k ∈ n.kids->0<=k/\k<(L:Int)
 root:n.op=2->∃(r:Nat) (x:PR),n.rule=(r:Int)/\rs[r]?=some x/\0<=x.root/\x.root<(L:Int)
theorem zcd (w:World)(o o' o'' o3:Obj):Below w.heap.size w ((((w.alloc o).alloc o').alloc o'').alloc o3):=zar (zbv w o o' o'')
theorem z5d (rv nv v:Value)(rs:List PR)(ns:List PN)(l:List Fc)(i:Nat)(n:PN)(w:World)(hR:RulesIn w rv rs)(hN:NodesAt w nv ns)(hn:ns[i]?=some n)(eo:n.op=0) :
  Calls Tryz.prog 144 #[.agg #[rv,nv],.int .i64 (i:Int),v] w fun e w'=>e=.returned (factV (nodeF rs n l))/\Below w.heap.size w w':=by
 obtain⟨-,na,nc,rfl,hna⟩:=id hN;have hil:=(List.getElem?_eq_some_iff.1 hn).1;rcases hna with h0|⟨nb,no,rfl,hca⟩
 ·rw[h0] at hil;exact absurd hil (Nat.not_lt_zero _)
 obtain⟨kv,c0,c1,c2,c3,c4,c5,c6,hk,hkl⟩:=hca i n hn;have lr:=zac c0;have k1:(i:Int)<(ns.length:Int):=by omega
 obtain⟨ka,kc,rfl,hki⟩:=id hk;rw[eo] at c0;have hv:nodeF rs n l=⟨true,false,false⟩:=by unfold nodeF;rw[if_pos eo]
 rw[hv];obtain⟨-,ra,rc,rfl,-⟩:=id hR;clear hR hN hca hk hki hv hn eo;go_enter Tryz.func144,Tryz.ntmps144
 go_upto_region 3 with(fail)
 generalize hW:World.alloc (World.alloc (World.alloc (World.alloc _ _) _) _) _=W;have dB:Below w.heap.size w W:=by rw[<-hW];exact zcd _ _ _ _ _
 have dG:Bl W w.heap.size 25 #[.slice ra rs.length rc,.slice (some ⟨nb,no,none⟩) ns.length nc]:=by rw[<-hW];exact Bl.past (Bl.past (Bl.past (Bl.new w _ _)))
 have dR:Bl W (w.heap.size+1) 100 #[.bool false,.bool false,.bool false]:=by rw[<-hW];exact Bl.past (Bl.past (Bl.new' (by simp)))
 have dN:Bl W (w.heap.size+1+1) 51 #[.int .i64 0,.slice ka n.kids.length kc,.int .i64 n.rule,.int .u64 n.s0,.int .u64 n.s1,.int .u64 n.s2,.int .u64 n.s3]:=by rw[<-hW];exact Bl.past (Bl.new' (by simp))
 have dO:Bl W (w.heap.size+1+1+1) 100 #[.bool false,.bool false,.bool false]:=by rw[<-hW];exact Bl.new' (by simp)
 have lO:=dO.lt;have n0:W.cell? ⟨w.heap.size+1+1,0,none⟩=some (.int .i64 0):=dN.cell (o:=0) rfl;have n1:W.cell? ⟨w.heap.size+1+1,1,none⟩=some (.slice ka n.kids.length kc):=dN.cell (o:=1) rfl;have n2:W.cell? ⟨w.heap.size+1+1,2,none⟩=some (.int .i64 n.rule):=dN.cell (o:=2) rfl;have DB:=Lib.hid dB;have DR:=Lib.hid dR;have DO:=Lib.hid dO;have g0:W.cell? ⟨w.heap.size,0,none⟩=some (.slice ra rs.length rc):=dG.cell (o:=0) rfl;have o0:=dO.c0;have o1:=dO.c1;have o2:=dO.c2;have oz:=dO.free;have q0:=dR.c0;have q1:=dR.c1;have q2:=dR.c2;have qz:=dR.free;clear hW dB dG dR dN dO n1 n2 c0 c1 c2 c3 c4 c5 c6;go_wp2;have d:=(((DR.out.off (c:=w.heap.size+1+1+1) (o:=0) (v:=.bool true) (Nat.ne_of_lt (by omega))).p0 (.bool true)).p1 (.bool false)).p2 (.bool false);have r0:=d.c0;have r1:=d.c1;have r2:=d.c2;exact bodyPost_ret (v:=factV ⟨true,false,false⟩) (by simp[results,Tryz.results144,go_sem,factV,r0,r1,r2]) rfl ⟨rfl,zay (za5 DB.out (by omega)) (Nat.le_succ _) _ _ _⟩
theorem z5e (rv nv v:Value)(rs:List PR)(ns:List PN)(l:List Fc)(i:Nat)(n:PN)(w:World)(hR:RulesIn w rv rs)(hN:NodesAt w nv ns)(hn:ns[i]?=some n)(eo:n.op=1) :
  Calls Tryz.prog 144 #[.agg #[rv,nv],.int .i64 (i:Int),v] w fun e w'=>e=.returned (factV (nodeF rs n l))/\Below w.heap.size w w':=by
 obtain⟨-,na,nc,rfl,hna⟩:=id hN;have hil:=(List.getElem?_eq_some_iff.1 hn).1;rcases hna with h0|⟨nb,no,rfl,hca⟩
 ·rw[h0] at hil;exact absurd hil (Nat.not_lt_zero _)
 obtain⟨kv,c0,c1,c2,c3,c4,c5,c6,hk,hkl⟩:=hca i n hn;have lr:=zac c0;have k1:(i:Int)<(ns.length:Int):=by omega
 obtain⟨ka,kc,rfl,hki⟩:=id hk;rw[eo] at c0;have hv:nodeF rs n l=⟨false,!zeroS n,true⟩:=by unfold nodeF;rw[if_neg (by omega),if_pos eo]
 rw[hv];have HS:=sne (zq6 n).symm;generalize zeroS n=z at *;obtain⟨-,ra,rc,rfl,-⟩:=id hR;clear hR hN hca hk hki hv hn eo;go_enter Tryz.func144,Tryz.ntmps144
 go_upto_region 3 with(fail)
 generalize hW:World.alloc (World.alloc (World.alloc (World.alloc _ _) _) _) _=W;have dB:Below w.heap.size w W:=by rw[<-hW];exact zcd _ _ _ _ _
 have dG:Bl W w.heap.size 25 #[.slice ra rs.length rc,.slice (some ⟨nb,no,none⟩) ns.length nc]:=by rw[<-hW];exact Bl.past (Bl.past (Bl.past (Bl.new w _ _)))
 have dR:Bl W (w.heap.size+1) 100 #[.bool false,.bool false,.bool false]:=by rw[<-hW];exact Bl.past (Bl.past (Bl.new' (by simp)))
 have dN:Bl W (w.heap.size+1+1) 51 #[.int .i64 1,.slice ka n.kids.length kc,.int .i64 n.rule,.int .u64 n.s0,.int .u64 n.s1,.int .u64 n.s2,.int .u64 n.s3]:=by rw[<-hW];exact Bl.past (Bl.new' (by simp))
 have dO:Bl W (w.heap.size+1+1+1) 100 #[.bool false,.bool false,.bool false]:=by rw[<-hW];exact Bl.new' (by simp)
 have lO:=dO.lt;have n0:W.cell? ⟨w.heap.size+1+1,0,none⟩=some (.int .i64 1):=dN.cell (o:=0) rfl;have n1:W.cell? ⟨w.heap.size+1+1,1,none⟩=some (.slice ka n.kids.length kc):=dN.cell (o:=1) rfl;have n2:W.cell? ⟨w.heap.size+1+1,2,none⟩=some (.int .i64 n.rule):=dN.cell (o:=2) rfl;have DB:=Lib.hid dB;have DR:=Lib.hid dR;have DO:=Lib.hid dO;have g0:W.cell? ⟨w.heap.size,0,none⟩=some (.slice ra rs.length rc):=dG.cell (o:=0) rfl;have o0:=dO.c0;have o1:=dO.c1;have o2:=dO.c2;have oz:=dO.free;have q0:=dR.c0;have q1:=dR.c1;have q2:=dR.c2;have qz:=dR.free;have n3:W.cell? ⟨w.heap.size+1+1,3,none⟩=some (.int .u64 n.s0):=dN.cell (o:=3) rfl;have n4:W.cell? ⟨w.heap.size+1+1,4,none⟩=some (.int .u64 n.s1):=dN.cell (o:=4) rfl;have n5:W.cell? ⟨w.heap.size+1+1,5,none⟩=some (.int .u64 n.s2):=dN.cell (o:=5) rfl;have n6:W.cell? ⟨w.heap.size+1+1,6,none⟩=some (.int .u64 n.s3):=dN.cell (o:=6) rfl;clear hW dB dG dR dN dO n1 n2 c0 c1 c2 c3 c4 c5 c6
 go_wp2_with (with_reducible refine zah BinOp.neq 49 _ _ _ rfl rfl _ _ rfl rfl za4 _ (HS.out _) ?_)
 have d:=((((DR.out.off (c:=w.heap.size+1+1+1) (o:=1) (v:=.bool (!z)) (Nat.ne_of_lt (by omega))).off (c:=w.heap.size+1+1+1) (o:=2) (v:=.bool true) (Nat.ne_of_lt (by omega))).p0 (.bool false)).p1 (.bool (!z))).p2 (.bool true);have r0:=d.c0;have r1:=d.c1;have r2:=d.c2;exact bodyPost_ret (v:=factV ⟨false,(!z),true⟩) (by simp[results,Tryz.results144,go_sem,factV,r0,r1,r2]) rfl ⟨rfl,zay (za5 (za5 DB.out (by omega)) (by omega)) (Nat.le_succ _) _ _ _⟩
theorem z5f (rv nv v:Value)(rs:List PR)(ns:List PN)(l:List Fc)(i:Nat)(n:PN)(w:World)(hR:RulesIn w rv rs)(hN:NodesAt w nv ns)(hF:FactsAt w v l)(hn:ns[i]?=some n)(hI:NodeIn rs l.length n)(eo:n.op=2) :
  Calls Tryz.prog 144 #[.agg #[rv,nv],.int .i64 (i:Int),v] w fun e w'=>e=.returned (factV (nodeF rs n l))/\Below w.heap.size w w':=by
 obtain⟨-,na,nc,rfl,hna⟩:=id hN;have hil:=(List.getElem?_eq_some_iff.1 hn).1;rcases hna with h0|⟨nb,no,rfl,hca⟩
 ·rw[h0] at hil;exact absurd hil (Nat.not_lt_zero _)
 obtain⟨kv,c0,c1,c2,c3,c4,c5,c6,hk,hkl⟩:=hca i n hn;have lr:=zac c0;have k1:(i:Int)<(ns.length:Int):=by omega
 obtain⟨ka,kc,rfl,hki⟩:=id hk;rw[eo] at c0;obtain⟨r,x,hr,hx,x0,x1⟩:=hI.root eo;have hv:nodeF rs n l=atF l x.root:=by unfold nodeF;rw[if_neg (by omega),if_neg (by omega),if_pos eo,hr,zcn hx]
 rw[hv];have hrl:=(List.getElem?_eq_some_iff.1 hx).1;obtain⟨-,ra,rc,rfl,hra⟩:=id hR;rcases hra with h0|⟨rb,ro,rfl,hrc⟩
 ·rw[h0] at hrl;exact absurd hrl (Nat.not_lt_zero _)
 obtain⟨r0,r1⟩:=hrc r x hx;have ll:=zac r0;obtain⟨y,hy⟩:∃y:Nat,x.root=y:=⟨x.root.toNat,by omega⟩;rw[hy] at r1 x1 ⊢;rw[hr] at c2;have rl:(r:Int)<(rs.length:Int):=by omega
 obtain⟨f,hf⟩:∃f,l[y]?=some f:=⟨_,List.getElem?_eq_getElem (by omega)⟩;rw[za6 hf];obtain⟨va,vc,rfl⟩:=hF.slice;obtain⟨fb,fo,rfl,f0,f1,f2⟩:=hF.at hf;have lf:=zac f0;obtain⟨a,b,c⟩:=f;clear hR hN hF hca hk hki hv hn hI eo hrc hf hx x0;go_enter Tryz.func144,Tryz.ntmps144
 go_upto_region 3 with(fail)
 generalize hW:World.alloc (World.alloc (World.alloc (World.alloc _ _) _) _) _=W;have dB:Below w.heap.size w W:=by rw[<-hW];exact zcd _ _ _ _ _
 have dG:Bl W w.heap.size 25 #[.slice (some ⟨rb,ro,none⟩) rs.length rc,.slice (some ⟨nb,no,none⟩) ns.length nc]:=by rw[<-hW];exact Bl.past (Bl.past (Bl.past (Bl.new w _ _)))
 have dR:Bl W (w.heap.size+1) 100 #[.bool false,.bool false,.bool false]:=by rw[<-hW];exact Bl.past (Bl.past (Bl.new' (by simp)))
 have dN:Bl W (w.heap.size+1+1) 51 #[.int .i64 2,.slice ka n.kids.length kc,.int .i64 (r:Int),.int .u64 n.s0,.int .u64 n.s1,.int .u64 n.s2,.int .u64 n.s3]:=by rw[<-hW];exact Bl.past (Bl.new' (by simp))
 have dO:Bl W (w.heap.size+1+1+1) 100 #[.bool false,.bool false,.bool false]:=by rw[<-hW];exact Bl.new' (by simp)
 have lO:=dO.lt;have n0:W.cell? ⟨w.heap.size+1+1,0,none⟩=some (.int .i64 2):=dN.cell (o:=0) rfl;have n1:W.cell? ⟨w.heap.size+1+1,1,none⟩=some (.slice ka n.kids.length kc):=dN.cell (o:=1) rfl;have n2:W.cell? ⟨w.heap.size+1+1,2,none⟩=some (.int .i64 (r:Int)):=dN.cell (o:=2) rfl;have DB:=Lib.hid dB;have DR:=Lib.hid dR;have DO:=Lib.hid dO;have g0:W.cell? ⟨w.heap.size,0,none⟩=some (.slice (some ⟨rb,ro,none⟩) rs.length rc):=dG.cell (o:=0) rfl;have o0:=dO.c0;have o1:=dO.c1;have o2:=dO.c2;have oz:=dO.free;have q0:=dR.c0;have q1:=dR.c1;have q2:=dR.c2;have qz:=dR.free;rw[<-(bcell dB).1 _ _ lf] at f0 f1 f2;rw[<-(bcell dB).1 _ _ ll] at r1;clear hW dB dG dR dN dO n1 c0 c1 c2 c3 c4 c5 c6 r0;go_wp2;have d:=(((((DR.out.off (c:=w.heap.size+1+1+1) (o:=0) (v:=.bool a) (Nat.ne_of_lt (by omega))).off (c:=w.heap.size+1+1+1) (o:=1) (v:=.bool b) (Nat.ne_of_lt (by omega))).off (c:=w.heap.size+1+1+1) (o:=2) (v:=.bool c) (Nat.ne_of_lt (by omega))).p0 (.bool a)).p1 (.bool b)).p2 (.bool c);have r0:=d.c0;have r1:=d.c1;have r2:=d.c2;exact bodyPost_ret (v:=factV ⟨a,b,c⟩) (by simp[results,Tryz.results144,go_sem,factV,r0,r1,r2]) rfl ⟨rfl,zay (za5 (za5 (za5 DB.out (by omega)) (by omega)) (by omega)) (Nat.le_succ _) _ _ _⟩
theorem z5g (rv nv v:Value)(rs:List PR)(ns:List PN)(l:List Fc)(i:Nat)(n:PN)(w:World)(hR:RulesIn w rv rs)(hN:NodesAt w nv ns)(hF:FactsAt w v l)(hn:ns[i]?=some n)(hI:NodeIn rs l.length n)(eo:n.op=5) :
  Calls Tryz.prog 144 #[.agg #[rv,nv],.int .i64 (i:Int),v] w fun e w'=>e=.returned (factV (nodeF rs n l))/\Below w.heap.size w w':=by
 obtain⟨-,na,nc,rfl,hna⟩:=id hN;have hil:=(List.getElem?_eq_some_iff.1 hn).1;rcases hna with h0|⟨nb,no,rfl,hca⟩
 ·rw[h0] at hil;exact absurd hil (Nat.not_lt_zero _)
 obtain⟨kv,c0,c1,c2,c3,c4,c5,c6,hk,hkl⟩:=hca i n hn;have lr:=zac c0;have k1:(i:Int)<(ns.length:Int):=by omega
 obtain⟨ka,kc,rfl,hki⟩:=id hk;rw[eo] at c0;obtain⟨x,hx⟩:=hI.ok.one (by omega);rw[zgm (by omega) hx,eo];obtain⟨xl,xu⟩:=hI.kid x (by rw[hx];simp);obtain⟨y,rfl⟩:∃y:Nat,x=y:=⟨x.toNat,by omega⟩;have hy:y<l.length:=by omega
 obtain⟨f,hf⟩:∃f,l[y]?=some f:=⟨_,List.getElem?_eq_getElem hy⟩;rw[za6 hf];obtain⟨va,vc,rfl⟩:=hF.slice;obtain⟨fb,fo,rfl,f0,f1,f2⟩:=hF.at hf;have lf:=zac f0;have y1:(y:Int)<(l.length:Int):=by omega
 rw[hx] at hki c1;rcases hki with h|⟨kb,ko,rfl,hkc⟩
 ·cases h
 have kx:=hkc 0 (y:Int) rfl;rw[Nat.add_zero] at kx;have lk:=zac kx;obtain⟨-,ra,rc,rfl,-⟩:=id hR;obtain⟨a,b,c⟩:=f;have HR:=Lib.hid (fun W=>zfj ⟨a,b,c⟩ W);unfold factV at HR;clear hR hN hF hca hk hkc hn hf hI hx xl xu eo hkl;rw[show singF 5 ⟨a,b,c⟩=⟨c,b,false⟩ from rfl];go_enter Tryz.func144,Tryz.ntmps144
 go_upto_region 3 with(fail)
 generalize hW:World.alloc (World.alloc (World.alloc (World.alloc _ _) _) _) _=W;have dB:Below w.heap.size w W:=by rw[<-hW];exact zcd _ _ _ _ _
 have dG:Bl W w.heap.size 25 #[.slice ra rs.length rc,.slice (some ⟨nb,no,none⟩) ns.length nc]:=by rw[<-hW];exact Bl.past (Bl.past (Bl.past (Bl.new w _ _)))
 have dR:Bl W (w.heap.size+1) 100 #[.bool false,.bool false,.bool false]:=by rw[<-hW];exact Bl.past (Bl.past (Bl.new' (by simp)))
 have dN:Bl W (w.heap.size+1+1) 51 #[.int .i64 5,.slice (some ⟨kb,ko,none⟩) 1 kc,.int .i64 n.rule,.int .u64 n.s0,.int .u64 n.s1,.int .u64 n.s2,.int .u64 n.s3]:=by rw[<-hW];exact Bl.past (Bl.new' (by simp))
 have dO:Bl W (w.heap.size+1+1+1) 100 #[.bool false,.bool false,.bool false]:=by rw[<-hW];exact Bl.new' (by simp)
 have lO:=dO.lt;have n0:W.cell? ⟨w.heap.size+1+1,0,none⟩=some (.int .i64 5):=dN.cell (o:=0) rfl;have n1:W.cell? ⟨w.heap.size+1+1,1,none⟩=some (.slice (some ⟨kb,ko,none⟩) 1 kc):=dN.cell (o:=1) rfl;have n2:W.cell? ⟨w.heap.size+1+1,2,none⟩=some (.int .i64 n.rule):=dN.cell (o:=2) rfl;have DB:=Lib.hid dB;have DR:=Lib.hid dR;have DO:=Lib.hid dO;have g0:W.cell? ⟨w.heap.size,0,none⟩=some (.slice ra rs.length rc):=dG.cell (o:=0) rfl;have o0:=dO.c0;have o1:=dO.c1;have o2:=dO.c2;have oz:=dO.free;have q0:=dR.c0;have q1:=dR.c1;have q2:=dR.c2;have qz:=dR.free;rw[<-(bcell dB).1 _ _ lf] at f0 f1 f2;rw[<-(bcell dB).1 _ _ lk] at kx;clear hW dB dG dR dN dO n2 c0 c1 c2 c3 c4 c5 c6 HR;go_wp2;have d:=((((DR.out.off (c:=w.heap.size+1+1+1) (o:=0) (v:=.bool c) (Nat.ne_of_lt (by omega))).off (c:=w.heap.size+1+1+1) (o:=1) (v:=.bool b) (Nat.ne_of_lt (by omega))).p0 (.bool c)).p1 (.bool b)).p2 (.bool false);have r0:=d.c0;have r1:=d.c1;have r2:=d.c2;exact bodyPost_ret (v:=factV ⟨c,b,false⟩) (by simp[results,Tryz.results144,go_sem,factV,r0,r1,r2]) rfl ⟨rfl,zay (za5 (za5 DB.out (by omega)) (by omega)) (Nat.le_succ _) _ _ _⟩
theorem z5h (rv nv v:Value)(rs:List PR)(ns:List PN)(l:List Fc)(i:Nat)(n:PN)(w:World)(hR:RulesIn w rv rs)(hN:NodesAt w nv ns)(hF:FactsAt w v l)(hn:ns[i]?=some n)(hI:NodeIn rs l.length n)(eo:n.op=6) :
  Calls Tryz.prog 144 #[.agg #[rv,nv],.int .i64 (i:Int),v] w fun e w'=>e=.returned (factV (nodeF rs n l))/\Below w.heap.size w w':=by
 obtain⟨-,na,nc,rfl,hna⟩:=id hN;have hil:=(List.getElem?_eq_some_iff.1 hn).1;rcases hna with h0|⟨nb,no,rfl,hca⟩
 ·rw[h0] at hil;exact absurd hil (Nat.not_lt_zero _)
 obtain⟨kv,c0,c1,c2,c3,c4,c5,c6,hk,hkl⟩:=hca i n hn;have lr:=zac c0;have k1:(i:Int)<(ns.length:Int):=by omega
 obtain⟨ka,kc,rfl,hki⟩:=id hk;rw[eo] at c0;obtain⟨x,hx⟩:=hI.ok.one (by omega);rw[zgm (by omega) hx,eo];obtain⟨xl,xu⟩:=hI.kid x (by rw[hx];simp);obtain⟨y,rfl⟩:∃y:Nat,x=y:=⟨x.toNat,by omega⟩;have hy:y<l.length:=by omega
 obtain⟨f,hf⟩:∃f,l[y]?=some f:=⟨_,List.getElem?_eq_getElem hy⟩;rw[za6 hf];obtain⟨va,vc,rfl⟩:=hF.slice;obtain⟨fb,fo,rfl,f0,f1,f2⟩:=hF.at hf;have lf:=zac f0;have y1:(y:Int)<(l.length:Int):=by omega
 rw[hx] at hki c1;rcases hki with h|⟨kb,ko,rfl,hkc⟩
 ·cases h
 have kx:=hkc 0 (y:Int) rfl;rw[Nat.add_zero] at kx;have lk:=zac kx;obtain⟨-,ra,rc,rfl,-⟩:=id hR;obtain⟨a,b,c⟩:=f;have HR:=Lib.hid (fun W=>zfj ⟨a,b,c⟩ W);unfold factV at HR;clear hR hN hF hca hk hkc hn hf hI hx xl xu eo hkl;rw[show singF 6 ⟨a,b,c⟩=⟨a&&c,b,c⟩ from rfl];go_enter Tryz.func144,Tryz.ntmps144
 go_upto_region 3 with(fail)
 generalize hW:World.alloc (World.alloc (World.alloc (World.alloc _ _) _) _) _=W;have dB:Below w.heap.size w W:=by rw[<-hW];exact zcd _ _ _ _ _
 have dG:Bl W w.heap.size 25 #[.slice ra rs.length rc,.slice (some ⟨nb,no,none⟩) ns.length nc]:=by rw[<-hW];exact Bl.past (Bl.past (Bl.past (Bl.new w _ _)))
 have dR:Bl W (w.heap.size+1) 100 #[.bool false,.bool false,.bool false]:=by rw[<-hW];exact Bl.past (Bl.past (Bl.new' (by simp)))
 have dN:Bl W (w.heap.size+1+1) 51 #[.int .i64 6,.slice (some ⟨kb,ko,none⟩) 1 kc,.int .i64 n.rule,.int .u64 n.s0,.int .u64 n.s1,.int .u64 n.s2,.int .u64 n.s3]:=by rw[<-hW];exact Bl.past (Bl.new' (by simp))
 have dO:Bl W (w.heap.size+1+1+1) 100 #[.bool false,.bool false,.bool false]:=by rw[<-hW];exact Bl.new' (by simp)
 have lO:=dO.lt;have n0:W.cell? ⟨w.heap.size+1+1,0,none⟩=some (.int .i64 6):=dN.cell (o:=0) rfl;have n1:W.cell? ⟨w.heap.size+1+1,1,none⟩=some (.slice (some ⟨kb,ko,none⟩) 1 kc):=dN.cell (o:=1) rfl;have n2:W.cell? ⟨w.heap.size+1+1,2,none⟩=some (.int .i64 n.rule):=dN.cell (o:=2) rfl;have DB:=Lib.hid dB;have DR:=Lib.hid dR;have DO:=Lib.hid dO;have g0:W.cell? ⟨w.heap.size,0,none⟩=some (.slice ra rs.length rc):=dG.cell (o:=0) rfl;have o0:=dO.c0;have o1:=dO.c1;have o2:=dO.c2;have oz:=dO.free;have q0:=dR.c0;have q1:=dR.c1;have q2:=dR.c2;have qz:=dR.free;rw[<-(bcell dB).1 _ _ lf] at f0 f1 f2;rw[<-(bcell dB).1 _ _ lk] at kx;clear hW dB dG dR dN dO n2 c0 c1 c2 c3 c4 c5 c6 HR;cases a with
 |false=>
  go_wp2;have d:=(((((DR.out.off (c:=w.heap.size+1+1+1) (o:=0) (v:=.bool false) (Nat.ne_of_lt (by omega))).off (c:=w.heap.size+1+1+1) (o:=1) (v:=.bool b) (Nat.ne_of_lt (by omega))).off (c:=w.heap.size+1+1+1) (o:=2) (v:=.bool c) (Nat.ne_of_lt (by omega))).p0 (.bool false)).p1 (.bool b)).p2 (.bool c);have r0:=d.c0;have r1:=d.c1;have r2:=d.c2;exact bodyPost_ret (v:=factV ⟨false,b,c⟩) (by simp[results,Tryz.results144,go_sem,factV,r0,r1,r2]) rfl ⟨rfl,zay (za5 (za5 (za5 DB.out (by omega)) (by omega)) (by omega)) (Nat.le_succ _) _ _ _⟩
 |true=>
  go_wp2;have d:=(((((DR.out.off (c:=w.heap.size+1+1+1) (o:=0) (v:=.bool c) (Nat.ne_of_lt (by omega))).off (c:=w.heap.size+1+1+1) (o:=1) (v:=.bool b) (Nat.ne_of_lt (by omega))).off (c:=w.heap.size+1+1+1) (o:=2) (v:=.bool c) (Nat.ne_of_lt (by omega))).p0 (.bool c)).p1 (.bool b)).p2 (.bool c);have r0:=d.c0;have r1:=d.c1;have r2:=d.c2;exact bodyPost_ret (v:=factV ⟨c,b,c⟩) (by simp[results,Tryz.results144,go_sem,factV,r0,r1,r2]) rfl ⟨rfl,zay (za5 (za5 (za5 DB.out (by omega)) (by omega)) (by omega)) (Nat.le_succ _) _ _ _⟩
theorem z5i (rv nv v:Value)(rs:List PR)(ns:List PN)(l:List Fc)(i:Nat)(n:PN)(w:World)(hR:RulesIn w rv rs)(hN:NodesAt w nv ns)(hF:FactsAt w v l)(hn:ns[i]?=some n)(hI:NodeIn rs l.length n)(eo:n.op=7) :
  Calls Tryz.prog 144 #[.agg #[rv,nv],.int .i64 (i:Int),v] w fun e w'=>e=.returned (factV (nodeF rs n l))/\Below w.heap.size w w':=by
 obtain⟨-,na,nc,rfl,hna⟩:=id hN;have hil:=(List.getElem?_eq_some_iff.1 hn).1;rcases hna with h0|⟨nb,no,rfl,hca⟩
 ·rw[h0] at hil;exact absurd hil (Nat.not_lt_zero _)
 obtain⟨kv,c0,c1,c2,c3,c4,c5,c6,hk,hkl⟩:=hca i n hn;have lr:=zac c0;have k1:(i:Int)<(ns.length:Int):=by omega
 obtain⟨ka,kc,rfl,hki⟩:=id hk;rw[eo] at c0;obtain⟨x,hx⟩:=hI.ok.one (by omega);rw[zgm (by omega) hx,eo];obtain⟨xl,xu⟩:=hI.kid x (by rw[hx];simp);obtain⟨y,rfl⟩:∃y:Nat,x=y:=⟨x.toNat,by omega⟩;have hy:y<l.length:=by omega
 obtain⟨f,hf⟩:∃f,l[y]?=some f:=⟨_,List.getElem?_eq_getElem hy⟩;rw[za6 hf];obtain⟨va,vc,rfl⟩:=hF.slice;obtain⟨fb,fo,rfl,f0,f1,f2⟩:=hF.at hf;have lf:=zac f0;have y1:(y:Int)<(l.length:Int):=by omega
 rw[hx] at hki c1;rcases hki with h|⟨kb,ko,rfl,hkc⟩
 ·cases h
 have kx:=hkc 0 (y:Int) rfl;rw[Nat.add_zero] at kx;have lk:=zac kx;obtain⟨-,ra,rc,rfl,-⟩:=id hR;obtain⟨a,b,c⟩:=f;have HR:=Lib.hid (fun W=>zfj ⟨a,b,c⟩ W);unfold factV at HR;clear hR hN hF hca hk hkc hn hf hI hx xl xu eo hkl;rw[show singF 7 ⟨a,b,c⟩=⟨a || c,b,false⟩ from rfl];go_enter Tryz.func144,Tryz.ntmps144
 go_upto_region 3 with(fail)
 generalize hW:World.alloc (World.alloc (World.alloc (World.alloc _ _) _) _) _=W;have dB:Below w.heap.size w W:=by rw[<-hW];exact zcd _ _ _ _ _
 have dG:Bl W w.heap.size 25 #[.slice ra rs.length rc,.slice (some ⟨nb,no,none⟩) ns.length nc]:=by rw[<-hW];exact Bl.past (Bl.past (Bl.past (Bl.new w _ _)))
 have dR:Bl W (w.heap.size+1) 100 #[.bool false,.bool false,.bool false]:=by rw[<-hW];exact Bl.past (Bl.past (Bl.new' (by simp)))
 have dN:Bl W (w.heap.size+1+1) 51 #[.int .i64 7,.slice (some ⟨kb,ko,none⟩) 1 kc,.int .i64 n.rule,.int .u64 n.s0,.int .u64 n.s1,.int .u64 n.s2,.int .u64 n.s3]:=by rw[<-hW];exact Bl.past (Bl.new' (by simp))
 have dO:Bl W (w.heap.size+1+1+1) 100 #[.bool false,.bool false,.bool false]:=by rw[<-hW];exact Bl.new' (by simp)
 have lO:=dO.lt;have n0:W.cell? ⟨w.heap.size+1+1,0,none⟩=some (.int .i64 7):=dN.cell (o:=0) rfl;have n1:W.cell? ⟨w.heap.size+1+1,1,none⟩=some (.slice (some ⟨kb,ko,none⟩) 1 kc):=dN.cell (o:=1) rfl;have n2:W.cell? ⟨w.heap.size+1+1,2,none⟩=some (.int .i64 n.rule):=dN.cell (o:=2) rfl;have DB:=Lib.hid dB;have DR:=Lib.hid dR;have DO:=Lib.hid dO;have g0:W.cell? ⟨w.heap.size,0,none⟩=some (.slice ra rs.length rc):=dG.cell (o:=0) rfl;have o0:=dO.c0;have o1:=dO.c1;have o2:=dO.c2;have oz:=dO.free;have q0:=dR.c0;have q1:=dR.c1;have q2:=dR.c2;have qz:=dR.free;rw[<-(bcell dB).1 _ _ lf] at f0 f1 f2;rw[<-(bcell dB).1 _ _ lk] at kx;clear hW dB dG dR dN dO n2 c0 c1 c2 c3 c4 c5 c6 HR;cases a with
 |false=>
  go_wp2;have d:=((((DR.out.off (c:=w.heap.size+1+1+1) (o:=0) (v:=.bool c) (Nat.ne_of_lt (by omega))).off (c:=w.heap.size+1+1+1) (o:=1) (v:=.bool b) (Nat.ne_of_lt (by omega))).p0 (.bool c)).p1 (.bool b)).p2 (.bool false);have r0:=d.c0;have r1:=d.c1;have r2:=d.c2;exact bodyPost_ret (v:=factV ⟨c,b,false⟩) (by simp[results,Tryz.results144,go_sem,factV,r0,r1,r2]) rfl ⟨rfl,zay (za5 (za5 DB.out (by omega)) (by omega)) (Nat.le_succ _) _ _ _⟩
 |true=>
  go_wp2;have d:=((((DR.out.off (c:=w.heap.size+1+1+1) (o:=0) (v:=.bool true) (Nat.ne_of_lt (by omega))).off (c:=w.heap.size+1+1+1) (o:=1) (v:=.bool b) (Nat.ne_of_lt (by omega))).p0 (.bool true)).p1 (.bool b)).p2 (.bool false);have r0:=d.c0;have r1:=d.c1;have r2:=d.c2;exact bodyPost_ret (v:=factV ⟨true,b,false⟩) (by simp[results,Tryz.results144,go_sem,factV,r0,r1,r2]) rfl ⟨rfl,zay (za5 (za5 DB.out (by omega)) (by omega)) (Nat.le_succ _) _ _ _⟩
theorem z5j (rv nv v:Value)(rs:List PR)(ns:List PN)(l:List Fc)(i:Nat)(n:PN)(w:World)(hR:RulesIn w rv rs)(hN:NodesAt w nv ns)(hF:FactsAt w v l)(hn:ns[i]?=some n)(hI:NodeIn rs l.length n)(eo:n.op=8) :
  Calls Tryz.prog 144 #[.agg #[rv,nv],.int .i64 (i:Int),v] w fun e w'=>e=.returned (factV (nodeF rs n l))/\Below w.heap.size w w':=by
 obtain⟨-,na,nc,rfl,hna⟩:=id hN;have hil:=(List.getElem?_eq_some_iff.1 hn).1;rcases hna with h0|⟨nb,no,rfl,hca⟩
 ·rw[h0] at hil;exact absurd hil (Nat.not_lt_zero _)
 obtain⟨kv,c0,c1,c2,c3,c4,c5,c6,hk,hkl⟩:=hca i n hn;have lr:=zac c0;have k1:(i:Int)<(ns.length:Int):=by omega
 obtain⟨ka,kc,rfl,hki⟩:=id hk;rw[eo] at c0;obtain⟨x,hx⟩:=hI.ok.one (by omega);rw[zgm (by omega) hx,eo];obtain⟨xl,xu⟩:=hI.kid x (by rw[hx];simp);obtain⟨y,rfl⟩:∃y:Nat,x=y:=⟨x.toNat,by omega⟩;have hy:y<l.length:=by omega
 obtain⟨f,hf⟩:∃f,l[y]?=some f:=⟨_,List.getElem?_eq_getElem hy⟩;rw[za6 hf];obtain⟨va,vc,rfl⟩:=hF.slice;obtain⟨fb,fo,rfl,f0,f1,f2⟩:=hF.at hf;have lf:=zac f0;have y1:(y:Int)<(l.length:Int):=by omega
 rw[hx] at hki c1;rcases hki with h|⟨kb,ko,rfl,hkc⟩
 ·cases h
 have kx:=hkc 0 (y:Int) rfl;rw[Nat.add_zero] at kx;have lk:=zac kx;obtain⟨-,ra,rc,rfl,-⟩:=id hR;obtain⟨a,b,c⟩:=f;have HR:=Lib.hid (fun W=>zfj ⟨a,b,c⟩ W);unfold factV at HR;clear hR hN hF hca hk hkc hn hf hI hx xl xu eo hkl;rw[show singF 8 ⟨a,b,c⟩=⟨(⟨a,b,c⟩:Fc).ok,false,c⟩ from rfl];generalize (⟨a,b,c⟩:Fc).ok=ok at *;go_enter Tryz.func144,Tryz.ntmps144
 go_upto_region 3 with(fail)
 generalize hW:World.alloc (World.alloc (World.alloc (World.alloc _ _) _) _) _=W;have dB:Below w.heap.size w W:=by rw[<-hW];exact zcd _ _ _ _ _
 have dG:Bl W w.heap.size 25 #[.slice ra rs.length rc,.slice (some ⟨nb,no,none⟩) ns.length nc]:=by rw[<-hW];exact Bl.past (Bl.past (Bl.past (Bl.new w _ _)))
 have dR:Bl W (w.heap.size+1) 100 #[.bool false,.bool false,.bool false]:=by rw[<-hW];exact Bl.past (Bl.past (Bl.new' (by simp)))
 have dN:Bl W (w.heap.size+1+1) 51 #[.int .i64 8,.slice (some ⟨kb,ko,none⟩) 1 kc,.int .i64 n.rule,.int .u64 n.s0,.int .u64 n.s1,.int .u64 n.s2,.int .u64 n.s3]:=by rw[<-hW];exact Bl.past (Bl.new' (by simp))
 have dO:Bl W (w.heap.size+1+1+1) 100 #[.bool false,.bool false,.bool false]:=by rw[<-hW];exact Bl.new' (by simp)
 have lO:=dO.lt;have n0:W.cell? ⟨w.heap.size+1+1,0,none⟩=some (.int .i64 8):=dN.cell (o:=0) rfl;have n1:W.cell? ⟨w.heap.size+1+1,1,none⟩=some (.slice (some ⟨kb,ko,none⟩) 1 kc):=dN.cell (o:=1) rfl;have n2:W.cell? ⟨w.heap.size+1+1,2,none⟩=some (.int .i64 n.rule):=dN.cell (o:=2) rfl;have DB:=Lib.hid dB;have DR:=Lib.hid dR;have DO:=Lib.hid dO;have g1:True:=trivial;have DN:=Lib.hid dN;have o0:=dO.c0;have o1:=dO.c1;have o2:=dO.c2;have oz:=dO.free;have F0:=Lib.hid f0;have F1:=Lib.hid f1;have F2:=Lib.hid f2;have KX:=Lib.hid kx;rw[<-(bcell dB).1 _ _ lf] at f0 f1 f2;rw[<-(bcell dB).1 _ _ lk] at kx;clear hW dB dG dR dN dO n2 c0 c1 c2 c3 c4 c5 c6
 go_wp2_with (go_at_call 158;(with_reducible refine(HR.out _).mono ?_);rintro e w5 ⟨rfl,hb⟩;have dR5:=DR.out.below hb;have dN5:=DN.out.below hb;have dO5:=DO.out.below hb;have dB5:=bl_on DB.out hb;have m1:w5.cell? ⟨w.heap.size+1+1,1,none⟩=some (.slice (some ⟨kb,ko,none⟩) 1 kc):=dN5.cell (o:=1) rfl;have p0:=dO5.c0;have p1:=dO5.c1;have p2:=dO5.c2;have pz:=dO5.free;have q0:=dR5.c0;have q1:=dR5.c1;have q2:=dR5.c2;have qz:=dR5.free;have lo5:=dO5.lt;have e0:=(bcell dB5).1 _ (fo+y*3) lf;have e1:=(bcell dB5).1 _ (fo+y*3+1) lf;have e2:=(bcell dB5).1 _ (fo+y*3+2) lf;have ek:=(bcell dB5).1 _ ko lk;rw[F0.out] at e0;rw[F1.out] at e1;rw[F2.out] at e2;rw[KX.out] at ek;have DR5:=Lib.hid dR5;have DB5:=Lib.hid dB5;clear hb dR5 dN5 dO5 dB5)
 have d:=((((DR5.out.off (c:=w.heap.size+1+1+1) (o:=0) (v:=.bool ok) (Nat.ne_of_lt (by omega))).off (c:=w.heap.size+1+1+1) (o:=2) (v:=.bool c) (Nat.ne_of_lt (by omega))).p0 (.bool ok)).p1 (.bool false)).p2 (.bool c);have r0:=d.c0;have r1:=d.c1;have r2:=d.c2;exact bodyPost_ret (v:=factV ⟨ok,false,c⟩) (by simp[results,Tryz.results144,go_sem,factV,r0,r1,r2]) rfl ⟨rfl,zay (za5 (za5 DB5.out (by omega)) (by omega)) (Nat.le_succ _) _ _ _⟩
theorem z5k (rv nv v:Value)(rs:List PR)(ns:List PN)(l:List Fc)(i:Nat)(n:PN)(w:World)(hR:RulesIn w rv rs)(hN:NodesAt w nv ns)(hF:FactsAt w v l)(hn:ns[i]?=some n)(hI:NodeIn rs l.length n)(eo:n.op=9) :
  Calls Tryz.prog 144 #[.agg #[rv,nv],.int .i64 (i:Int),v] w fun e w'=>e=.returned (factV (nodeF rs n l))/\Below w.heap.size w w':=by
 obtain⟨-,na,nc,rfl,hna⟩:=id hN;have hil:=(List.getElem?_eq_some_iff.1 hn).1;rcases hna with h0|⟨nb,no,rfl,hca⟩
 ·rw[h0] at hil;exact absurd hil (Nat.not_lt_zero _)
 obtain⟨kv,c0,c1,c2,c3,c4,c5,c6,hk,hkl⟩:=hca i n hn;have lr:=zac c0;have k1:(i:Int)<(ns.length:Int):=by omega
 obtain⟨ka,kc,rfl,hki⟩:=id hk;rw[eo] at c0;obtain⟨x,hx⟩:=hI.ok.one (by omega);rw[zgm (by omega) hx,eo];obtain⟨xl,xu⟩:=hI.kid x (by rw[hx];simp);obtain⟨y,rfl⟩:∃y:Nat,x=y:=⟨x.toNat,by omega⟩;have hy:y<l.length:=by omega
 obtain⟨f,hf⟩:∃f,l[y]?=some f:=⟨_,List.getElem?_eq_getElem hy⟩;rw[za6 hf];obtain⟨va,vc,rfl⟩:=hF.slice;obtain⟨fb,fo,rfl,f0,f1,f2⟩:=hF.at hf;have lf:=zac f0;have y1:(y:Int)<(l.length:Int):=by omega
 rw[hx] at hki c1;rcases hki with h|⟨kb,ko,rfl,hkc⟩
 ·cases h
 have kx:=hkc 0 (y:Int) rfl;rw[Nat.add_zero] at kx;have lk:=zac kx;obtain⟨-,ra,rc,rfl,-⟩:=id hR;obtain⟨a,b,c⟩:=f;have HR:=Lib.hid (fun W=>zfj ⟨a,b,c⟩ W);unfold factV at HR;clear hR hN hF hca hk hkc hn hf hI hx xl xu eo hkl;rw[show singF 9 ⟨a,b,c⟩=⟨c,false,(⟨a,b,c⟩:Fc).ok⟩ from rfl];generalize (⟨a,b,c⟩:Fc).ok=ok at *;go_enter Tryz.func144,Tryz.ntmps144
 go_upto_region 3 with(fail)
 generalize hW:World.alloc (World.alloc (World.alloc (World.alloc _ _) _) _) _=W;have dB:Below w.heap.size w W:=by rw[<-hW];exact zcd _ _ _ _ _
 have dG:Bl W w.heap.size 25 #[.slice ra rs.length rc,.slice (some ⟨nb,no,none⟩) ns.length nc]:=by rw[<-hW];exact Bl.past (Bl.past (Bl.past (Bl.new w _ _)))
 have dR:Bl W (w.heap.size+1) 100 #[.bool false,.bool false,.bool false]:=by rw[<-hW];exact Bl.past (Bl.past (Bl.new' (by simp)))
 have dN:Bl W (w.heap.size+1+1) 51 #[.int .i64 9,.slice (some ⟨kb,ko,none⟩) 1 kc,.int .i64 n.rule,.int .u64 n.s0,.int .u64 n.s1,.int .u64 n.s2,.int .u64 n.s3]:=by rw[<-hW];exact Bl.past (Bl.new' (by simp))
 have dO:Bl W (w.heap.size+1+1+1) 100 #[.bool false,.bool false,.bool false]:=by rw[<-hW];exact Bl.new' (by simp)
 have lO:=dO.lt;have n0:W.cell? ⟨w.heap.size+1+1,0,none⟩=some (.int .i64 9):=dN.cell (o:=0) rfl;have n1:W.cell? ⟨w.heap.size+1+1,1,none⟩=some (.slice (some ⟨kb,ko,none⟩) 1 kc):=dN.cell (o:=1) rfl;have n2:W.cell? ⟨w.heap.size+1+1,2,none⟩=some (.int .i64 n.rule):=dN.cell (o:=2) rfl;have DB:=Lib.hid dB;have DR:=Lib.hid dR;have DO:=Lib.hid dO;have g1:True:=trivial;have DN:=Lib.hid dN;have o0:=dO.c0;have o1:=dO.c1;have o2:=dO.c2;have oz:=dO.free;have F0:=Lib.hid f0;have F1:=Lib.hid f1;have F2:=Lib.hid f2;have KX:=Lib.hid kx;rw[<-(bcell dB).1 _ _ lf] at f0 f1 f2;rw[<-(bcell dB).1 _ _ lk] at kx;clear hW dB dG dR dN dO n2 c0 c1 c2 c3 c4 c5 c6
 go_wp2_with (go_at_call 158;(with_reducible refine(HR.out _).mono ?_);rintro e w5 ⟨rfl,hb⟩;have dR5:=(DR.out.off (c:=w.heap.size+1+1+1) (o:=0) (v:=.bool c) (Nat.ne_of_lt (by omega))).below hb;have dN5:=(DN.out.off (c:=w.heap.size+1+1+1) (o:=0) (v:=.bool c) (Nat.ne_of_lt (by omega))).below hb;have dO5:=(DO.out.p0 (.bool c)).below hb;have dB5:=bl_on (za5 (o:=0) (v:=.bool c) DB.out (show w.heap.size<=w.heap.size+1+1+1 by omega)) hb;have m1:w5.cell? ⟨w.heap.size+1+1,1,none⟩=some (.slice (some ⟨kb,ko,none⟩) 1 kc):=dN5.cell (o:=1) rfl;have p0:=dO5.c0;have p1:=dO5.c1;have p2:=dO5.c2;have pz:=dO5.free;have q0:=dR5.c0;have q1:=dR5.c1;have q2:=dR5.c2;have qz:=dR5.free;have lo5:=dO5.lt;have e0:=(bcell dB5).1 _ (fo+y*3) lf;have e1:=(bcell dB5).1 _ (fo+y*3+1) lf;have e2:=(bcell dB5).1 _ (fo+y*3+2) lf;have ek:=(bcell dB5).1 _ ko lk;rw[F0.out] at e0;rw[F1.out] at e1;rw[F2.out] at e2;rw[KX.out] at ek;have DR5:=Lib.hid dR5;have DB5:=Lib.hid dB5;clear hb dR5 dN5 dO5 dB5)
 have d:=(((DR5.out.off (c:=w.heap.size+1+1+1) (o:=2) (v:=.bool ok) (Nat.ne_of_lt (by omega))).p0 (.bool c)).p1 (.bool false)).p2 (.bool ok);have r0:=d.c0;have r1:=d.c1;have r2:=d.c2;exact bodyPost_ret (v:=factV ⟨c,false,ok⟩) (by simp[results,Tryz.results144,go_sem,factV,r0,r1,r2]) rfl ⟨rfl,zay (za5 DB5.out (by omega)) (Nat.le_succ _) _ _ _⟩
end Go.Proofs.YthhppmehhdlmnaaGreatDoor
