/- The zero value of the array of lists: 10000 slices that are nil. wf: needersOf. wf: needersOf, the walk. Written by wip/gen/wfndw.py. wf.Of: the search by count -/
import Derived.Deep.WholeRow
import Derived.Deep.Cut
import Derived.Shelf.Strconv.Clone
import Derived.Test.YthhppmehhdlmnaaGreatDoorPkB
import Derived.Test.YthhppmehhdlmnaaGreatDoorPkLexStr
import Derived.Test.YthhppmehhdlmnaaGreatDoorPkFM
import Derived.Test.YthhppmehhdlmnaaGreatDoorPkGA
import Derived.Test.YthhppmehhdlmnaaGreatDoorPkWN
import Derived.Test.YthhppmehhdlmnaaGreatDoorPkFU
set_option maxRecDepth 100000
set_option maxHeartbeats 16000000
namespace Go.Proofs.YthhppmehhdlmnaaGreatDoor
open Go.RowKit
def nilS:Value:=.slice none 0 0
structure Nils (n:Nat) (l:List Value):Prop where
 is:l=List.replicate n nilS
theorem Nils.app {n m k:Nat}{a b:List Value}(h:Nils n a)(g:Nils m b)(e:n+m=k):Nils k (a.append b):=by
 refine⟨?_⟩;show a++b=_;rw[h.is,g.is,<-e,List.replicate_append_replicate]
theorem zm6:∀(l:List Value) (n:Nat),(l.all fun v=>match v with|.slice none 0 0=>true|_=>false)=true->l.length=n->Nils n l
 | [],n,_,h=>⟨by rw[<-h];rfl⟩
 |v::l,n,h,e=>by
  rw[List.all_cons,Bool.and_eq_true] at h;have ih:=(zm6 l l.length h.2 rfl).is;have hv:v=nilS:=by
   have h1:=h.1;split at h1
   ·rfl
   ·cases h1
  exact⟨by rw[<-e,List.length_cons,List.replicate_succ,<-ih,hv]⟩
theorem z0n:Tryz.prog.info? 192=some Tryz.t192:=by kernel_rfl
theorem z0o:∃l:List Value,Tryz.t192.zero=some (.agg l.toArray)/\Nils 10000 l:=by
 refine⟨_,rfl,?_⟩
 repeat' (first|refine Nils.app ?_ ?_ rfl|exact zm6 _ _ rfl rfl)
theorem z0p:∃Z:Array Value,(∀w,(zeroValue 192).run Tryz.prog w=.ok (.agg Z) w)/\(∀i,i<10000->Z[i]?=some (.slice none 0 0))/\Z.size=10000:=by
 obtain⟨l,h1,h2⟩:=z0o;have h3:=z0n;refine⟨l.toArray,fun w=>by simp[zeroValue,typeInfo,h3,h1],fun i hi=>?_,?_⟩
 ·rw[List.getElem?_toArray,h2.is,List.getElem?_replicate,if_pos hi];rfl
 ·rw[List.size_toArray,h2.is,List.length_replicate]
structure VRows (base n UB:Nat) (U:Nat->List Int) (V:Nat->Value) (W:World):Prop where
 bl:∃cs,Bl W UB 192 cs/\∀i,i<n->cs[i]?=some (V i)
 row:∀i,i<n->W.ownsRow base 3 1 (V i) (U i).length (intsV (U i))
 apart:∀i j,i<n->j<n->i≠j->(V i).ownBlock=none∨(V i).ownBlock≠(V j).ownBlock
section
variable {base n UB:Nat} {U:Nat->List Int} {V:Nat->Value} {W W':World}
theorem VRows.below (h:VRows base n UB U V W)(hb:Below W.heap.size W W'):VRows base n UB U V W':=by
 obtain⟨⟨cs,h1,h2⟩,h3,h4⟩:=h;exact⟨⟨cs,h1.below hb,h2⟩,fun i hi=>zaa (h3 i hi) hb,h4⟩
theorem VRows.lt (h:VRows base n UB U V W):UB<W.heap.size:=by obtain⟨⟨cs,h1,-⟩,-⟩:=h;exact h1.lt
theorem VRows.cell {i:Nat}(h:VRows base n UB U V W)(hi:i<n):W.cell? ⟨UB,i,none⟩=some (V i):=by obtain⟨⟨cs,h1,h2⟩,-⟩:=h;exact h1.cell (h2 i hi)
theorem VRows.free (h:VRows base n UB U V W)(o:Nat):W.frozen? ⟨UB,o,none⟩=false:=by obtain⟨⟨cs,h1,h2⟩,-⟩:=h;exact h1.free o
theorem VRows.off {c o:Nat}{v:Value}(h:VRows base n UB U V W)(hc:UB≠c)(hl:c<base):VRows base n UB U V (W.setCell ⟨c,o,none⟩ v):=by
 obtain⟨⟨cs,h1,h2⟩,h3,h4⟩:=h;exact⟨⟨cs,h1.off hc,h2⟩,fun i hi=>zau (h3 i hi) hl _ _,h4⟩
theorem VRows.add {k:Nat}{x:Int}{v5:Value}(h:VRows base n UB U V W)(hk:k<n)(ho:W'.ownsRow base 3 1 v5 ((U k).length+1) (intsV (U k)++[.int .i64 x]))(hg:W.grownBy W' (V k).ownBlock)
  (hv:v5.ownBlock=(V k).ownBlock∨v5.ownBlock=some W.heap.size):VRows base n UB (updU U k (U k++[x])) (updU V k v5) (W'.setCell ⟨UB,k,none⟩ v5):=by
 obtain⟨⟨cs,h1,h2⟩,h3,h4⟩:=h;have h1':Bl W' UB 192 cs:=h1.grown hg (fun g e=>by obtain⟨c,fz,hc⟩:=Lib.ownsRow_kind (h3 k hk) g e;exact⟨c,3,fz,hc,by decide⟩);have hlt:∀i,i<n->∀g,(V i).ownBlock=some g->g<W.heap.size:=fun i hi g e=>((h3 i hi).lt g e).2
 refine⟨⟨_,h1'.set' v5,fun i hi=>?_⟩,fun i hi=>?_,fun i j hi hj hne=>?_⟩
 ·unfold updU
  by_cases e:i=k
  ·subst e
   rw[if_pos rfl];exact Array.getElem?_setIfInBounds_self_of_lt (Array.getElem?_eq_some_iff.1 (h2 i hi)).1
  ·rw[if_neg e,Array.getElem?_setIfInBounds_ne (by omega)]
   exact h2 i hi
 ·unfold updU
  by_cases e:i=k
  ·subst e
   rw[if_pos rfl,if_pos rfl,List.length_append,zbb];exact ownsRow_setCell_other ho (a:=⟨UB,i,none⟩) (za9 ho ⟨_,_,h1'⟩ (by decide)) _
  ·rw[if_neg e,if_neg e]
   have hr:W'.ownsRow base 3 1 (V i) (U i).length (intsV (U i)):=(h3 i hi).kept hg (h4 i k hi hk e);exact ownsRow_setCell_other hr (a:=⟨UB,k,none⟩) (za9 hr ⟨_,_,h1'⟩ (by decide)) _
 ·unfold updU
  by_cases e:i=k
  ·subst e
   rw[if_pos rfl,if_neg (by omega)];rcases hv with hv|hv
   ·rw[hv];exact h4 i j hi hj hne
   ·right
    rw[hv];intro e2;have:=hlt j hj _ e2.symm;omega
  ·rw[if_neg e]
   by_cases e2:j=k
   ·subst e2
    rw[if_pos rfl];rcases hv with hv|hv
    ·rw[hv];exact h4 i j hi hj hne
    ·cases hvi:(V i).ownBlock with
     |none=>left;rfl
     |some g=>
      right;rw[hv];intro e3;have:=hlt i hi g hvi;injection e3 with e3;omega
   ·rw[if_neg e2];exact h4 i j hi hj hne
end
theorem zrc {base n UB k:Nat}{x:Int}{U:Nat->List Int}{V:Nat->Value}{v v5:Value}{w w1 w5:World}(h:VRows base n UB U V w)(hb:Below w.heap.size w w1)(hk:k<n)(hv:V k=v)
  (ho:w5.ownsRow base 3 1 v5 ((U k).length+1) (intsV (U k)++[.int .i64 x])) (hg:w1.grownBy w5 v.ownBlock) (ht:v5.ownBlock=v.ownBlock∨v5.ownBlock=some w1.heap.size) :
  ∃V',VRows base n UB (updU U k (U k++[x])) V' (w5.setCell ⟨UB,k,none⟩ v5)/\Kp base UB UB 3 w (w5.setCell ⟨UB,k,none⟩ v5):=by
 have h1:=h.below hb;rw[<-hv] at hg ht;obtain⟨cs,hB,-⟩:=id h1.bl;have hkind:∀g,(V k).ownBlock=some g->base<=g/\∃c fz,w1.heap[g]?=some (.cells c 3 fz):=fun g e=>by
  obtain⟨c,fz,hc⟩:=Lib.ownsRow_kind (h1.row k hk) g e;exact⟨((h1.row k hk).lt g e).1,c,fz,hc⟩
 have hB5:=hB.grown hg (fun g e=>by obtain⟨-,c,fz,hc⟩:=hkind g e;exact⟨c,3,fz,hc,by decide⟩);exact⟨_,h1.add hk ho hg ht,((Kp.of_below hb).trans (Kp.grown hg hkind)).trans (Kp.set hB5 (.inl rfl) _)⟩
theorem Kp.low {base n xb yb:Nat}{t:TypeId}{w w':World}(h:Kp base xb yb t w w')(hn:n<=base)(hx:n<=xb)(hy:n<=yb)(hs:n<=w.heap.size):Below n w w':=
 ⟨h.os,h.tape,h.output,h.size,fun k hk=>h.block k (by omega) (by omega) (by omega) (.inl (by omega))⟩
theorem Kp.blow {base xb yb b:Nat}{t t1:TypeId}{cs:Array Value}{w w':World}(h:Kp base xb yb t1 w w')(hv:Bl w b t cs)(hx:b≠xb)(hy:b≠yb)(hb:b<base):Bl w' b t cs:=by
 unfold Bl at hv ⊢;rw[h.block b (Array.getElem?_eq_some_iff.1 hv).1 hx hy (.inl hb)];exact hv
def LfAt (N:Nat)(lf:Nat->Nat)(b:Nat)(W:World):Prop:=∃cs,Bl W b 3 cs/\∀i,i<N->cs[i]?=some (.int .i64 (lf i:Int))
theorem LfAt.put {N b i x:Nat}{lf lf':Nat->Nat}{W:World}(h:LfAt N lf b W)(hi:i<N)(h1:lf' i=x)(h2:∀j,j≠i->lf' j=lf j):LfAt N lf' b (W.setCell ⟨b,i,none⟩ (.int .i64 (x:Int))):=by
 obtain⟨cs,g1,g2⟩:=h;refine⟨_,g1.set' _,fun j hj=>?_⟩;by_cases e:j=i
 ·subst e
  rw[h1];exact Array.getElem?_setIfInBounds_self_of_lt (Array.getElem?_eq_some_iff.1 (g2 j hj)).1
 ·rw[Array.getElem?_setIfInBounds_ne (by omega),h2 j e]
  exact g2 j hj
theorem LfAt.cell {N b i:Nat}{lf:Nat->Nat}{W:World}(h:LfAt N lf b W)(hi:i<N):W.cell? ⟨b,i,none⟩=some (.int .i64 (lf i:Int)):=by obtain⟨cs,g1,g2⟩:=h;exact g1.cell (g2 i hi)
theorem LfAt.lt {N b:Nat}{lf:Nat->Nat}{W:World}(h:LfAt N lf b W):b<W.heap.size:=by obtain⟨cs,g1,g2⟩:=h;exact g1.lt
theorem LfAt.free {N b:Nat}{lf:Nat->Nat}{W:World}(h:LfAt N lf b W)(o:Nat):W.frozen? ⟨b,o,none⟩=false:=by obtain⟨cs,g1,g2⟩:=h;exact g1.free o
theorem LfAt.below {N b:Nat}{lf:Nat->Nat}{W W':World}(h:LfAt N lf b W)(hb:Below W.heap.size W W'):LfAt N lf b W':=by obtain⟨cs,g1,g2⟩:=h;exact⟨cs,g1.below hb,g2⟩
theorem LfAt.ints {N b c:Nat}{lf:Nat->Nat}{W:World}(h:LfAt N lf b W):IntsAt W (.slice (some ⟨b,0,none⟩) N c) ((List.range N).map fun i=>(lf i:Int)):=by
 obtain⟨cs,g1,g2⟩:=h;refine⟨_,c,by rw[List.length_map,List.length_range],.inr ⟨b,0,rfl,fun i x hx=>?_⟩⟩;rw[List.getElem?_map] at hx;cases hr:(List.range N)[i]? with
 |none=>rw[hr] at hx;cases hx
 |some j=>
  rw[hr] at hx;cases hx;have hi:i<N:=by have:=(List.getElem?_eq_some_iff.1 hr).1;rwa [List.length_range] at this
  rw[List.getElem?_range hi] at hr;cases hr;rw[Nat.zero_add];exact g1.cell (g2 i hi)
structure NdSt (rs:List PR) (ns:List PN) (rv nv:Value) (w:World) (lf:Nat->Nat) (k t c:Nat) (W:World):Prop where
 lo:Below w.heap.size w W
 g:Bl W w.heap.size 25 #[rv,nv]
 u:∃U V,VRows (w.heap.size+3) 10000 (w.heap.size+1) U V W/\NdU (needW rs ns (lfp rs ns)) ns.length k t c U
 l:LfAt ns.length lf (w.heap.size+2) W
 f:FBk W (w.heap.size+4) 120 (lfp rs ns)
section
variable {rs:List PR} {ns:List PN} {rv nv:Value} {w W W':World} {lf lf':Nat->Nat} {k t c:Nat}
theorem NdSt.below (h:NdSt rs ns rv nv w lf k t c W)(hb:Below W.heap.size W W'):NdSt rs ns rv nv w lf k t c W':=by
 obtain⟨h1,h2,⟨U,V,h3,h4⟩,h5,h6⟩:=h;exact⟨bl_on h1 hb,h2.below hb,⟨U,V,h3.below hb,h4⟩,h5.below hb,h6.below hb⟩
theorem NdSt.put {i x:Nat}(h:NdSt rs ns rv nv w lf k t c W)(hi:i<ns.length)(h1:lf' i=x)(h2:∀j,j≠i->lf' j=lf j):NdSt rs ns rv nv w lf' k t c (W.setCell ⟨w.heap.size+2,i,none⟩ (.int .i64 (x:Int))):=by
 obtain⟨a1,a2,⟨U,V,a3,a4⟩,a5,a6⟩:=h;exact⟨a1.setCell (p:=⟨w.heap.size+2,i,none⟩) (by show _<=w.heap.size+2;omega) _,a2.off (by omega),⟨U,V,a3.off (by omega) (by omega),a4⟩,a5.put hi h1 h2,a6.off (by omega)⟩
theorem NdSt.turn {U:Nat->List Int}{V:Nat->Value}{t' c':Nat}(h:NdSt rs ns rv nv w lf k t c W)(hk:Kp (w.heap.size+3) (w.heap.size+1) (w.heap.size+1) 3 W W')(hu:VRows (w.heap.size+3) 10000 (w.heap.size+1) U V W')(hd:NdU (needW rs ns (lfp rs ns)) ns.length k t' c' U):NdSt rs ns rv nv w lf k t' c' W':=by
 obtain⟨a1,a2,-,⟨cs,a5,a6⟩,⟨ds,a7,a8⟩⟩:=h;exact⟨a1.trans (hk.low (by omega) (by omega) (by omega) a1.size),hk.blow a2 (by omega) (by omega) (by omega),⟨U,V,hu,hd⟩,⟨cs,hk.blow a5 (by omega) (by omega) (by omega),a6⟩,⟨ds,hk.bl a7 (by omega) (by omega) (by decide),a8⟩⟩
end
def NdV (w:World)(B:Nat)(v:Value)(l:List Int)(W:World):Prop:=IntsAt w v l∨∃X x,v=.slice (some ⟨X,0,none⟩) 1 1/\l=[x]/\B<=X/\W.cell? ⟨X,0,none⟩=some (.int .i64 x)
theorem NdV.below {w W W':World}{B:Nat}{v:Value}{l:List Int}(h:NdV w B v l W)(hb:Below W.heap.size W W'):NdV w B v l W':=by
 rcases h with h|⟨X,x,h1,h2,h3,h4⟩
 ·exact .inl h
 ·exact .inr ⟨X,x,h1,h2,h3,by rw[(bcell hb).1 _ _ (zac h4)];exact h4⟩
theorem NdV.put {w W:World}{B c o:Nat}{u v:Value}{l:List Int}(h:NdV w B v l W)(hc:c<B):NdV w B v l (W.setCell ⟨c,o,none⟩ u):=by
 rcases h with h|⟨X,x,h1,h2,h3,h4⟩
 ·exact .inl h
 ·refine .inr ⟨X,x,h1,h2,h3,?_⟩
  rw[<-h4];exact World.cell?_of_block (a:=⟨X,0,none⟩) (heap_setCell_other _ _ _ _ (by show X≠c;omega))
theorem NdV.cell {w W:World}{B n c t:Nat}{a:Option Addr}{l:List Int}{x:Int}(h:NdV w B (.slice a n c) l W)(hb:Below w.heap.size w W)(hx:l[t]?=some x):∃b off,a=some ⟨b,off,none⟩/\W.cell? ⟨b,off+t,none⟩=some (.int .i64 x):=by
 rcases h with h|⟨X,y,h1,h2,h3,h4⟩
 ·obtain⟨b,off,e,hc⟩:=h.cell hx
  exact⟨b,off,e,by rw[(bcell hb).1 _ _ (zac hc)];exact hc⟩
 ·injection h1 with e1 e2 e3
  subst h2;cases t with
  |zero=>
   obtain rfl:y=x:=by simpa using hx
   exact⟨X,0,e1,h4⟩
  |succ t=>simp at hx
theorem NdV.of {rs:List PR}{L:List Fc}{n:PN}{w wr w5:World}{a ka:Option Addr}{c kc:Nat}(hK:IntsAt w (.slice ka n.kids.length kc) n.kids)(hi:IntsAt w5 (.slice a (needN rs L n).length c) (needN rs L n))
  (h:(a=ka/\c=kc/\needN rs L n=n.kids.take (needN rs L n).length)∨∃X x,a=some ⟨X,0,none⟩/\c=1/\needN rs L n=[x]/\wr.heap.size<=X):NdV w wr.heap.size (.slice a (needN rs L n).length c) (needN rs L n) w5:=by
 rcases h with⟨e1,e2,e3⟩|⟨X,x,e1,e2,e3,e4⟩
 ·left
  subst e1 e2;have hl:(needN rs L n).length<=n.kids.length:=by have h:=congrArg List.length e3;rw[List.length_take] at h;omega
  have:=hK.take hl;rw[<-e3] at this;exact this
 ·right
  obtain⟨b,off,e,hc⟩:=hi.cell (i:=0) (x:=x) (by rw[e3];rfl);rw[e1] at e;cases e;exact⟨X,x,by rw[e1,e2,e3];rfl,e3,e4,hc⟩
def CapsAt (w:World)(nv:Value)(N:Nat):Prop:=∀b off n c,nv=.slice (some ⟨b,off,none⟩) n c->∀i,i<N->∀a m d,w.cell? ⟨b,off+i*7+1,none⟩=some (.slice a m d)->m<=d
theorem CapsAt.kept {N:Nat}{w w':World}{nv:Value}{ns:List PN}(h:CapsAt w nv N)(hN:NodesAt w nv ns)(hl:N=ns.length)(hb:Below w.heap.size w w'):CapsAt w' nv N:=by
 intro b off n c e i hi a m d hc;obtain⟨-,a',c',e',h2⟩:=hN;rw[e] at e';injection e' with e1 e2 e3;rcases h2 with h2|⟨b',off',e4,h2⟩
 ·rw[hl,h2] at hi;exact absurd hi (Nat.not_lt_zero _)
 ·rw[<-e1] at e4
  cases e4;obtain⟨kv,g0,g1,-⟩:=h2 i _ (List.getElem?_eq_getElem (by omega));refine h b off n c e i hi a m d ?_;rw[<-(bcell hb).1 _ _ (zac g0)];exact hc
def NdIs (rs:List PR)(ns:List PN)(w:World)(e:Ending)(w':World):Prop:=∃U V lf,e=.returned (.tuple #[.pointer (some ⟨w.heap.size+1,0,none⟩),.slice (some ⟨w.heap.size+2,0,none⟩) ns.length ns.length]) /\
 VRows (w.heap.size+3) 10000 (w.heap.size+1) U V w'/\NdU (needW rs ns (lfp rs ns)) ns.length ns.length 0 40000 U/\LfAt ns.length lf (w.heap.size+2) w'/\(∀i,i<ns.length->lf i=(needW rs ns (lfp rs ns) i).length+lpN (loopW ns (lfp rs ns)) i)/\Below w.heap.size w w'
def lfK (rs:List PR)(ns:List PN)(k:Nat)(i:Nat):Nat:=if i<k then (needW rs ns (lfp rs ns) i).length+lpN (loopW ns (lfp rs ns)) i else 0
def lfM (rs:List PR)(ns:List PN)(k:Nat)(i:Nat):Nat:=if i=k then (needW rs ns (lfp rs ns) i).length else lfK rs ns k i
theorem zlj (rs:List PR)(ns:List PN)(k:Nat):lfM rs ns k k=(needW rs ns (lfp rs ns) k).length:=by unfold lfM;rw[if_pos rfl]
theorem zm7 {rs:List PR}{ns:List PN}{k j:Nat}(h:j≠k):lfM rs ns k j=lfK rs ns k j:=by unfold lfM;rw[if_neg h]
theorem zrd (rs:List PR)(ns:List PN)(k:Nat):lfK rs ns (k+1) k=(needW rs ns (lfp rs ns) k).length+lpN (loopW ns (lfp rs ns)) k:=by unfold lfK;rw[if_pos (by omega)]
theorem zm8 {rs:List PR}{ns:List PN}{k j:Nat}(h:j≠k):lfK rs ns (k+1) j=lfM rs ns k j:=by
 rw[zm7 h];unfold lfK;by_cases e:j<k
 ·rw[if_pos e,if_pos (by omega)]
 ·rw[if_neg e,if_neg (by omega)]
theorem z00 {rs:List PR}{ns:List PN}{k:Nat}(h:loopW ns (lfp rs ns) k=false):lfM rs ns k=lfK rs ns (k+1):=by
 funext j;by_cases e:j=k
 ·subst e;rw[zlj,zrd];unfold lpN;rw[h];simp
 ·rw[zm8 e]
theorem NdV.later {w W:World}{B n c t:Nat}{a:Option Addr}{l:List Int}{x:Int}{W0:World}(h:NdV w B (.slice a n c) l W0)(hb:Below w.heap.size w W)(ht:t≠0)(hx:l[t]?=some x):∃b off,a=some ⟨b,off,none⟩/\W.cell? ⟨b,off+t,none⟩=some (.int .i64 x):=by
 rcases h with h|⟨X,y,h1,h2,h3,h4⟩
 ·exact NdV.cell (B:=B) (.inl h) hb hx
 ·subst h2
  have:=(List.getElem?_eq_some_iff.1 hx).1;simp at this;omega
theorem zgn {rs:List PR}{ns:List PN}{k:Nat}{n:PN}(hO:FlowOk rs ns)(hn:ns[k]?=some n):(needN rs (lfp rs ns) n).length<=60/\(needW rs ns (lfp rs ns) k).length=(needN rs (lfp rs ns) n).length /\
  ∀(t:Nat) (x:Int),(needN rs (lfp rs ns) n)[t]?=some x->∃i:Nat,x=(i:Int)/\i<ns.length/\(needW rs ns (lfp rs ns) k)[t]?=some i:=by
 have hmem:=List.mem_of_getElem? hn;have hkl:=hO.kl n hmem;refine⟨?_,by rw[zc8 hn,List.length_map],fun t x hx=>?_⟩
 ·unfold needN
  split
  ·simp
  ·split
   ·have:∀(ks:List Int),(seqNd (lfp rs ns) ks).length<=ks.length:=by
     intro ks
     induction ks with
     |nil=>exact Nat.le_refl _
     |cons y r ih=>unfold seqNd;split<;>simp<;>omega
    exact Nat.le_trans (this _) hkl
   ·exact hkl
 ·obtain⟨h0,h1⟩:=zhj (hO.ok n hmem) (List.mem_of_getElem? hx)
  refine⟨x.toNat,by omega,by omega,?_⟩;rw[zc8 hn,List.getElem?_map,hx];rfl
theorem zm9 (rv nv:Value)(rs:List PR)(ns:List PN)(w:World)(hR:RulesIn w rv rs)(hN:NodesAt w nv ns)(hC:CapsAt w nv ns.length)(hO:FlowOk rs ns) :
  Calls Tryz.prog 118 #[.agg #[rv,nv]] w (NdIs rs ns w):=by
 have hs:=hO.nl;obtain⟨ii,hii,hz0,hz1,hz2⟩:=info_parts za3;obtain⟨Z,hzv,hZ,hZs⟩:=z0p;have hmk:=fun w=>run_make_row' (P:=Tryz.prog) 29 3 (.int .i64 0) 8 Tryz.underlying29 za3 rfl .i64 .i64 ns.length (by omega) (by omega) w
 have HFO:=Lib.hid (fun(W:World) (hb:Below w.heap.size w W)=>zwg rv nv rs ns W (hR.kept hb (Nat.le_refl _)) (hN.kept hb (Nat.le_refl _)) hO);have HND:=Lib.hid (fun(W:World) (hb:Below w.heap.size w W) (n:PN) (ka:Option Addr) (kc:Nat) (v:Value) (hn:n ∈ ns) (hK:IntsAt W (.slice ka n.kids.length kc) n.kids) (hc:n.kids.length<=kc) (hF:FactsAt W v (lfp rs ns))=>zjm rv nv v rs ns.length (lfp rs ns) n ka kc W (hR.kept hb (Nat.le_refl _)) hK hc (by have:=hO.kl n hn;omega) (fun _=>hF) (hO.ok n hn));have HOK:=Lib.hid hO;obtain⟨-,na,nc,rfl,hna⟩:=id hN;obtain⟨-,ra,rc,rfl,-⟩:=id hR;unfold NewB at HFO;rw[za7] at HFO;have HC:=Lib.hid hC;have h3:=zar (o:=.cells (madeCells #[.int .i64 0] ns.length) 3) (zat w (.cells #[.slice ra rs.length rc,.slice na ns.length nc] 25) (.cells Z 192));have hz:(((w.alloc (.cells #[.slice ra rs.length rc,.slice na ns.length nc] 25)).alloc (.cells Z 192)).alloc (.cells (madeCells #[.int .i64 0] ns.length) 3)).heap.size=w.heap.size+3:=by simp
 have HF3:=Lib.hid (HFO.out _ h3);rw[hz] at HF3;have HS0:Hid (∀W',FBk W' (w.heap.size+3+1) 120 (lfp rs ns)->Below (w.heap.size+3) (((w.alloc (.cells #[.slice ra rs.length rc,.slice na ns.length nc] 25)).alloc (.cells Z 192)).alloc (.cells (madeCells #[.int .i64 0] ns.length) 3)) W'->NdSt rs ns (.slice ra rs.length rc) (.slice na ns.length nc) w (lfK rs ns 0) 0 0 0 W'):=Lib.hid (fun W' hf hb=>by
  have hbl:=hb;rw[<-hz] at hbl;refine⟨bl_on h3 hbl,(Bl.past (Bl.past (Bl.new w _ _))).below hbl,⟨fun _=>[],fun _=>.slice none 0 0,⟨⟨Z,(Bl.past (Bl.new' (by simp))).below hbl,hZ⟩,fun i hi=>World.ownsRow_nil _ _ _ _,fun i j _ _ _=>.inl rfl⟩,NdU.start⟩,⟨_,(Bl.new' (by simp)).below hbl,fun i hi=>?_⟩,hf⟩;unfold lfK;rw[if_neg (by omega)];simp[madeCells,hi,Nat.mod_one])
 clear hR hN hO HFO h3 hz hC;go_enter Tryz.func118,Tryz.ntmps118
 go_wp2_with (go_at_call 45;(with_reducible refine HF3.out.mono ?_);rintro e w3 ⟨rfl,hf,hb⟩;have HQ3:=Lib.hid (HS0.out w3 hf hb);have gg1:w3.cell? ⟨w.heap.size,1,none⟩=some (.slice na ns.length nc):=HQ3.out.g.cell (o:=1) rfl;have lgg:=HQ3.out.g.lt;clear hf hb)
 clear gg1 lgg HF3 HS0 hmk hzv hZ hZs
 go_loopw [20] (fun d wr=>∃k:Nat,k<=ns.length/\d=.int .i64 (k:Int)/\NdSt rs ns (.slice ra rs.length rc) (.slice na ns.length nc) w (lfK rs ns k) k 0 (k*60) wr) (fun d _=>ns.length-(intOf d).toNat)
 case atStart=>exact⟨0,Nat.zero_le _,rfl,HQ3.out⟩
 case round=>
  obtain⟨k,hk,rfl,hq⟩:=hrel;by_cases hlt:k<ns.length
  ·have k1:(k:Int)<(ns.length:Int):=by omega
   obtain⟨n,hn⟩:∃n,ns[k]?=some n:=⟨_,List.getElem?_eq_getElem hlt⟩;rcases hna with h0|⟨nb,no,rfl,hca⟩
   ·rw[h0] at hlt;exact absurd hlt (Nat.not_lt_zero _)
   obtain⟨kv,c0,c1,c2,c3,c4,c5,c6,hki,-⟩:=hca k n hn;have lr:=zac c0;obtain⟨ka,kc,rfl,-⟩:=id hki;have hkc:=HC.out nb no _ _ rfl k hlt _ _ _ c1;obtain⟨hq60,hwl,hread⟩:=zgn HOK.out hn;have hlw:=zlc (L:=lfp rs ns) hn;have hq1:=hq.below (zab wr (.cells #[.int .i64 n.op,.slice ka n.kids.length kc,.int .i64 n.rule,.int .u64 n.s0,.int .u64 n.s1,.int .u64 n.s2,.int .u64 n.s3] 51));have hf1:=hq1.f.facts (c:=ns.length) (by rw[za7];unfold maxLen;omega);rw[za7] at hf1;have HCN:=Lib.hid (HND.out _ hq1.lo n ka kc _ (List.mem_of_getElem? hn) (hki.kept hq1.lo (Nat.le_refl _)) hkc hf1);rw[<-(bcell hq.lo).1 _ _ lr] at c0 c1 c2 c3 c4 c5 c6;have lr':=zac c0;have g0:wr.cell? ⟨w.heap.size,0,none⟩=some (.slice ra rs.length rc):=hq.g.cell (o:=0) rfl;have g1:wr.cell? ⟨w.heap.size,1,none⟩=some (.slice (some ⟨nb,no,none⟩) ns.length nc):=hq.g.cell (o:=1) rfl;have lg:=hq.g.lt;have ll:=hq.l.lt;have HQ1:=Lib.hid hq1;have HN1:=Lib.hid (Bl.new wr 51 #[.int .i64 n.op,.slice ka n.kids.length kc,.int .i64 n.rule,.int .u64 n.s0,.int .u64 n.s1,.int .u64 n.s2,.int .u64 n.s3]);have HK:=Lib.hid hki;have HRD:=Lib.hid hread;have HLW:=Lib.hid hlw;have HWL:=Lib.hid hwl;have hz1:(wr.alloc (.cells #[.int .i64 n.op,.slice ka n.kids.length kc,.int .i64 n.rule,.int .u64 n.s0,.int .u64 n.s1,.int .u64 n.s2,.int .u64 n.s3] 51)).heap.size=wr.heap.size+1:=by simp
   have HZ1:=Lib.hid hz1;have H5K:=Lib.hid (fun h5=>(HOK.out.ok n (List.mem_of_getElem? hn)).ok.one h5);clear hn hki hca hq hq1 hf1 hread hlw hwl hz1;unfold NeedsIs at HCN;generalize hQ:needN rs (lfp rs ns) n=q at *
   go_upto_region 8 with(go_at_call 61;(with_reducible refine HCN.out.mono ?_);rintro e w5 ⟨a,c,rfl,hi5,hb5,hal⟩;have HQ5:=Lib.hid (HQ1.out.below hb5);have HN5:=Lib.hid (HN1.out.below hb5);have HV5:=Lib.hid (hQ ▸ NdV.of (rs:=rs) (L:=lfp rs ns) (n:=n) HK.out (by rw[hQ];exact hi5) (by rw[hQ];exact hal):NdV w _ (.slice a q.length c) q w5);clear hi5 hb5 hal)
   have cl:=HQ5.out.l.cell hlt;have fl:=HQ5.out.l.free;have ll5:=HQ5.out.l.lt;clear c0 c1 c2 c3 c4 c5 c6 g0 g1
   go_upto_region 9 with(fail)
   have HQ6:=Lib.hid (HQ5.out.put (lf':=lfM rs ns k) (i:=k) (x:=q.length) hlt ((zlj rs ns k).trans HWL.out) (fun j hj=>zm7 hj));have HV6:=Lib.hid (HV5.out.put (c:=w.heap.size+2) (o:=k) (u:=.int .i64 (q.length:Int)) (by rw[HZ1.out];omega));have HN6:=Lib.hid (HN5.out.off (c:=w.heap.size+2) (o:=k) (v:=.int .i64 (q.length:Int)) (by omega));clear cl fl ll5 HQ5 HV5 HN5 HQ1 HN1 HCN;generalize World.setCell _ _ _=W6 at *;have d0:=HN6.out.cell (o:=0) rfl;have d1:=HN6.out.cell (o:=1) rfl;have d2:=HN6.out.cell (o:=2) rfl;have d3:=HN6.out.cell (o:=3) rfl;have d4:=HN6.out.cell (o:=4) rfl;have d5:=HN6.out.cell (o:=5) rfl;have d6:=HN6.out.cell (o:=6) rfl;have ld:=HN6.out.lt;have hf6:=HQ6.out.f.facts (c:=ns.length) (by rw[za7];unfold maxLen;omega);rw[za7] at hf6;have HRP:=Lib.hid (zm2 n ka kc _ (lfp rs ns) W6 (HK.out.kept HQ6.out.lo (Nat.le_refl _)) hf6 H5K.out);clear hf6;cases hlo:loopN (lfp rs ns) n with
   |false=>
    rw[hlo] at HRP
    go_wp2_with (go_at_call 48;(with_reducible refine HRP.out.mono ?_);rintro e w7 ⟨rfl,hb⟩;have HQ8:=Lib.hid (z00 (HLW.out.trans hlo) ▸ HQ6.out.below hb);have HV8:=Lib.hid (HV6.out.below hb);clear hb)
    clear d0 d1 d2 d3 d4 d5 d6 ld
    go_loopw [45] (fun d wx=>∃t:Nat,t<=q.length/\d=.int .i64 (t:Int)/\NdSt rs ns (.slice ra rs.length rc) (.slice (some ⟨nb,no,none⟩) ns.length nc) w (lfK rs ns (k+1)) k t (k*60+t) wx/\(t=0->NdV w _ (.slice a q.length c) q wx)) (fun d _=>q.length-(intOf d).toNat)
    case atStart=>exact⟨0,Nat.zero_le _,rfl,HQ8.out,fun _=>HV8.out⟩
    case round=>
     obtain⟨t,ht,rfl,hq,hv⟩:=hrel;by_cases htl:t<q.length
     ·have t1:(t:Int)<(q.length:Int):=by omega
      obtain⟨x,hx⟩:∃x,q[t]?=some x:=⟨_,List.getElem?_eq_getElem htl⟩;obtain⟨i,rfl,hi,hwi⟩:=HRD.out t x hx;obtain⟨kb,ko,rfl,kx⟩:∃b off,a=some ⟨b,off,none⟩/\wr.cell? ⟨b,off+t,none⟩=some (.int .i64 (i:Int)):=by
       by_cases e:t=0
       ·exact(hv e).cell hq.lo hx
       ·exact HV8.out.later hq.lo e hx
      have lk:=zac kx;obtain⟨U,V,hu,hd⟩:=hq.u;have hi2:i<10000:=by omega
      have i0:(0:Int)<=(i:Int):=by omega
      have i1:(i:Int)<10000:=by omega
      have hrow:=hu.row i hi2;obtain⟨va,vc,hvi⟩:=zad hrow;have cu:=hu.cell (i:=i) hi2;have fu:=hu.free i;have lu:=hu.lt;rw[hvi] at hrow cu;obtain⟨cs,hUB,-⟩:=id hu.bl;have HUB:=Lib.hid hUB;have HO:=Lib.hid hrow;have HU:=Lib.hid hu;have HVI:=Lib.hid hvi;have HQX:=Lib.hid hq;have hul:=hd.len i;have hbs:=hq.lo.size;have HND9:=Lib.hid (hd.step (U':=updU U i (U i++[(k:Int)])) hlt hwi (by unfold updU;rw[if_pos rfl]) (fun x hx=>by unfold updU;rw[if_neg hx]));clear hq hv hu hvi hrow hUB hx hwi hd;go_wp2
      go_region_law (refine zaw (by rfl) _ _ 29 (by rfl) (w.heap.size+3) 3 ii _ 1 8 Tryz.underlying29 hii hz0 hz1 hz2 (by rfl) (by decide) (.slice va (U i).length vc) (U i).length _ (by simp[Act.eval]) (by refine zaa HO.out ?_;repeat (first|exact Below.refl _ _|refine Below.drew ?_|refine zae ?_ rfl _)) _ 1 1 [.int .i64 (k:Int)] (by simp[Act.eval];rfl) (by rfl) (by refine Bl.news (t:=3) ?_;repeat (first|(refine Bl.new' ?_;simp;done)|refine Bl.drew ?_|refine Bl.past ?_)) (by simp[Value.oneCell']) (by unfold maxLen;omega) (by omega) (by simp;omega) ?_;intro a5 c5 w5 hown5 hgrow5 hat5;have hbw5:Hid (Below wr.heap.size wr (wr.alloc (.cells #[.int .i64 (k:Int)] 3)).drew):=Lib.hid (Below.drew (zae (Below.refl _ _) rfl _));have hu5:=(HUB.out.below hbw5.out).grown hgrow5 (fun g e=>by obtain⟨c,fz,hc⟩:=Lib.ownsRow_kind (zaa HO.out hbw5.out) g e;exact⟨c,3,fz,hc,by decide⟩);have xu:=World.cell?_of_block (a:=⟨w.heap.size+1,i,none⟩) (show w5.heap[w.heap.size+1]?=wr.heap[w.heap.size+1]? by unfold Bl at hu5;rw[hu5];exact HUB.out.symm);rw[cu] at xu;have xf:=hu5.free;have HO5:=Lib.hid hown5;have HG5:=Lib.hid hgrow5;have HT5:=Lib.hid hat5;clear hown5 hgrow5 hat5 hu5)
      all_goals
       go_wp2;obtain⟨V',hu9,hk9⟩:=zrc HU.out hbw5.out hi2 HVI.out HO5.out HG5.out HT5.out;go_roundw
       case rel=>exact⟨t+1,by omega,by go_num,HQX.out.turn hk9 hu9 HND9.out,fun h=>absurd h (by omega)⟩
       case measure=>simp[intOf];omega
     ·obtain rfl:t=q.length:=by omega
      have t1:¬(q.length:Int)<(q.length:Int):=by omega
      have HQ:=Lib.hid hq;clear hq hv;go_wp2;refine⟨⟨k+1,by omega,by go_num,?_⟩,by simp[intOf];omega⟩;obtain⟨a1,a2,⟨U,V,a3,a4⟩,a5,a6⟩:=HQ.out;have a7:NdU (needW rs ns (lfp rs ns)) ns.length k (needW rs ns (lfp rs ns) k).length (k*60+q.length) U:=by rw[HWL.out];exact a4
      exact⟨a1,a2,⟨U,V,a3,a7.next.grow (by omega)⟩,a5,a6⟩
   |true=>
    rw[hlo] at HRP
    go_upto_region 10 with(go_at_call 48;(with_reducible refine HRP.out.mono ?_);rintro e w7 ⟨rfl,hb⟩;have HQ7:=Lib.hid (HQ6.out.below hb);have HV7:=Lib.hid (HV6.out.below hb);clear hb)
    have cl:=HQ7.out.l.cell hlt;rw[zlj,HWL.out] at cl;have fl:=HQ7.out.l.free;have ll7:=HQ7.out.l.lt;clear d0 d1 d2 d3 d4 d5 d6 ld
    go_upto_region 11 with(fail)
    have HQ8:=Lib.hid (HQ7.out.put (lf':=lfK rs ns (k+1)) (i:=k) (x:=q.length+1) hlt (by rw[zrd,HWL.out];unfold lpN;rw[HLW.out,hlo,if_pos rfl]) (fun j hj=>zm8 hj));have HV8:=Lib.hid (HV7.out.put (c:=w.heap.size+2) (o:=k) (u:=.int .i64 ((q.length+1:Nat):Int)) (by rw[HZ1.out];omega));rw[show((q.length+1:Nat):Int)=(q.length:Int)+1 from rfl] at HQ8 HV8;clear cl fl ll7 HQ7 HV7;generalize World.setCell _ _ _=W8 at *
    go_wp2_with fail
    go_loopw [45] (fun d wx=>∃t:Nat,t<=q.length/\d=.int .i64 (t:Int)/\NdSt rs ns (.slice ra rs.length rc) (.slice (some ⟨nb,no,none⟩) ns.length nc) w (lfK rs ns (k+1)) k t (k*60+t) wx/\(t=0->NdV w _ (.slice a q.length c) q wx)) (fun d _=>q.length-(intOf d).toNat)
    case atStart=>exact⟨0,Nat.zero_le _,rfl,HQ8.out,fun _=>HV8.out⟩
    case round=>
     obtain⟨t,ht,rfl,hq,hv⟩:=hrel;by_cases htl:t<q.length
     ·have t1:(t:Int)<(q.length:Int):=by omega
      obtain⟨x,hx⟩:∃x,q[t]?=some x:=⟨_,List.getElem?_eq_getElem htl⟩;obtain⟨i,rfl,hi,hwi⟩:=HRD.out t x hx;obtain⟨kb,ko,rfl,kx⟩:∃b off,a=some ⟨b,off,none⟩/\wr.cell? ⟨b,off+t,none⟩=some (.int .i64 (i:Int)):=by
       by_cases e:t=0
       ·exact(hv e).cell hq.lo hx
       ·exact HV8.out.later hq.lo e hx
      have lk:=zac kx;obtain⟨U,V,hu,hd⟩:=hq.u;have hi2:i<10000:=by omega
      have i0:(0:Int)<=(i:Int):=by omega
      have i1:(i:Int)<10000:=by omega
      have hrow:=hu.row i hi2;obtain⟨va,vc,hvi⟩:=zad hrow;have cu:=hu.cell (i:=i) hi2;have fu:=hu.free i;have lu:=hu.lt;rw[hvi] at hrow cu;obtain⟨cs,hUB,-⟩:=id hu.bl;have HUB:=Lib.hid hUB;have HO:=Lib.hid hrow;have HU:=Lib.hid hu;have HVI:=Lib.hid hvi;have HQX:=Lib.hid hq;have hul:=hd.len i;have hbs:=hq.lo.size;have HND9:=Lib.hid (hd.step (U':=updU U i (U i++[(k:Int)])) hlt hwi (by unfold updU;rw[if_pos rfl]) (fun x hx=>by unfold updU;rw[if_neg hx]));clear hq hv hu hvi hrow hUB hx hwi hd;go_wp2
      go_region_law (refine zaw (by rfl) _ _ 29 (by rfl) (w.heap.size+3) 3 ii _ 1 8 Tryz.underlying29 hii hz0 hz1 hz2 (by rfl) (by decide) (.slice va (U i).length vc) (U i).length _ (by simp[Act.eval]) (by refine zaa HO.out ?_;repeat (first|exact Below.refl _ _|refine Below.drew ?_|refine zae ?_ rfl _)) _ 1 1 [.int .i64 (k:Int)] (by simp[Act.eval];rfl) (by rfl) (by refine Bl.news (t:=3) ?_;repeat (first|(refine Bl.new' ?_;simp;done)|refine Bl.drew ?_|refine Bl.past ?_)) (by simp[Value.oneCell']) (by unfold maxLen;omega) (by omega) (by simp;omega) ?_;intro a5 c5 w5 hown5 hgrow5 hat5;have hbw5:Hid (Below wr.heap.size wr (wr.alloc (.cells #[.int .i64 (k:Int)] 3)).drew):=Lib.hid (Below.drew (zae (Below.refl _ _) rfl _));have hu5:=(HUB.out.below hbw5.out).grown hgrow5 (fun g e=>by obtain⟨c,fz,hc⟩:=Lib.ownsRow_kind (zaa HO.out hbw5.out) g e;exact⟨c,3,fz,hc,by decide⟩);have xu:=World.cell?_of_block (a:=⟨w.heap.size+1,i,none⟩) (show w5.heap[w.heap.size+1]?=wr.heap[w.heap.size+1]? by unfold Bl at hu5;rw[hu5];exact HUB.out.symm);rw[cu] at xu;have xf:=hu5.free;have HO5:=Lib.hid hown5;have HG5:=Lib.hid hgrow5;have HT5:=Lib.hid hat5;clear hown5 hgrow5 hat5 hu5)
      all_goals
       go_wp2;obtain⟨V',hu9,hk9⟩:=zrc HU.out hbw5.out hi2 HVI.out HO5.out HG5.out HT5.out;go_roundw
       case rel=>exact⟨t+1,by omega,by go_num,HQX.out.turn hk9 hu9 HND9.out,fun h=>absurd h (by omega)⟩
       case measure=>simp[intOf];omega
     ·obtain rfl:t=q.length:=by omega
      have t1:¬(q.length:Int)<(q.length:Int):=by omega
      have HQ:=Lib.hid hq;clear hq hv;go_wp2;refine⟨⟨k+1,by omega,by go_num,?_⟩,by simp[intOf];omega⟩;obtain⟨a1,a2,⟨U,V,a3,a4⟩,a5,a6⟩:=HQ.out;have a7:NdU (needW rs ns (lfp rs ns)) ns.length k (needW rs ns (lfp rs ns) k).length (k*60+q.length) U:=by rw[HWL.out];exact a4
      exact⟨a1,a2,⟨U,V,a3,a7.next.grow (by omega)⟩,a5,a6⟩
  ·obtain rfl:k=ns.length:=by omega
   have k1:¬(ns.length:Int)<(ns.length:Int):=by omega
   have HQ:=Lib.hid hq;clear hq;go_wp2
   go_ret2
   obtain⟨a1,a2,⟨U,V,a3,a4⟩,a5,a6⟩:=HQ.out;exact⟨U,V,_,rfl,a3,a4.grow (by omega),a5,fun i hi=>by unfold lfK;rw[if_pos hi],a1⟩
def wfL (rs:List PR)(ns:List PN):List Bool:=(List.range ns.length).map fun i=>itG (needW rs ns (lfp rs ns)) (loopW ns (lfp rs ns)) (ns.length+1) i
theorem zpf (rs:List PR)(ns:List PN):(wfL rs ns).length=ns.length:=by unfold wfL;rw[List.length_map,List.length_range]
theorem z3u {rs:List PR}{ns:List PN}{i:Nat}(hi:i<ns.length):(wfL rs ns)[i]?=some (itG (needW rs ns (lfp rs ns)) (loopW ns (lfp rs ns)) (ns.length+1) i):=by
 unfold wfL;rw[List.getElem?_map,List.getElem?_range hi];rfl
theorem z3v {rs:List PR}{ns:List PN}{i:Nat}(hO:FlowOk rs ns)(hi:i<ns.length):itG (needW rs ns (lfp rs ns)) (loopW ns (lfp rs ns)) (ns.length+1) i=true↔WfG (needW rs ns (lfp rs ns)) (loopW ns (lfp rs ns)) i:=
 (WfG.rounds (zle hO.ok) (Nat.le_succ _) hi).symm
def OfIs (rs:List PR)(ns:List PN)(w:World)(e:Ending)(w':World):Prop:=e=.returned (.slice (some ⟨w.heap.size+1,0,none⟩) ns.length ns.length)/\BoolsAt w' (.slice (some ⟨w.heap.size+1,0,none⟩) ns.length ns.length) (wfL rs ns)/\Below w.heap.size w w'
def natI (f:List Nat):List Int:=f.map fun(i:Nat)=>(i:Int)
theorem zwz (f:List Nat)(i:Nat):natI (f++[i])=natI f++[(i:Int)]:=by unfold natI;rw[List.map_append];rfl
theorem z1g (f:List Nat):(natI f).length=f.length:=by unfold natI;rw[List.length_map]
theorem zw0 {f:List Nat}{p x:Nat}(h:f[p]?=some x):(intsV (natI f))[p]?=some (.int .i64 (x:Int)):=by unfold intsV natI;rw[List.getElem?_map,List.getElem?_map,h];rfl
def MkAt (N:Nat)(m:Nat->Bool)(b:Nat)(W:World):Prop:=∃cs,Bl W b 4 cs/\∀i,i<N->cs[i]?=some (.bool (m i))
theorem MkAt.put {N b i:Nat}{m m':Nat->Bool}{W:World}(h:MkAt N m b W)(hi:i<N)(h1:m' i=true)(h2:∀j,j≠i->m' j=m j):MkAt N m' b (W.setCell ⟨b,i,none⟩ (.bool true)):=by
 obtain⟨cs,g1,g2⟩:=h;refine⟨_,g1.set' _,fun j hj=>?_⟩;by_cases e:j=i
 ·subst e
  rw[h1];exact Array.getElem?_setIfInBounds_self_of_lt (Array.getElem?_eq_some_iff.1 (g2 j hj)).1
 ·rw[Array.getElem?_setIfInBounds_ne (by omega),h2 j e]
  exact g2 j hj
theorem MkAt.bools {N b c:Nat}{m:Nat->Bool}{l:List Bool}{W:World}(h:MkAt N m b W)(hl:l.length=N)(hm:∀i,i<N->l[i]?=some (m i)):BoolsAt W (.slice (some ⟨b,0,none⟩) N c) l:=by
 obtain⟨cs,g1,g2⟩:=h;refine⟨_,c,by rw[hl],.inr ⟨b,0,rfl,fun i x hx=>?_⟩⟩;have hi:i<N:=by rw[<-hl];exact(List.getElem?_eq_some_iff.1 hx).1
 rw[hm i hi] at hx;cases hx;rw[Nat.zero_add];exact g1.cell (g2 i hi)
theorem zw1 {B b:Nat}{t:TypeId}{cs:Array Value}{W W':World}(h:Bl W b t cs)(hb:Below B W W')(hl:b<B):Bl W' b t cs:=by
 unfold Bl at h ⊢;rw[hb.block b hl];exact h
theorem VRows.keep {base n UB B:Nat}{U:Nat->List Int}{V:Nat->Value}{W W':World}(h:VRows base n UB U V W)(hv:∀i,i<n->∀g,(V i).ownBlock=some g->g<B)(hu:UB<B)(hb:Below B W W'):VRows base n UB U V W':=by
 obtain⟨⟨cs,h1,h2⟩,h3,h4⟩:=h;refine⟨⟨cs,zw1 h1 hb hu,h2⟩,fun i hi=>?_,h4⟩;obtain⟨hl,hr⟩:=h3 i hi;refine⟨hl,?_⟩;rcases hr with hr|⟨g,cap,cur,e,hbb,hg,rest⟩
 ·exact .inl hr
 ·exact .inr ⟨g,cap,cur,e,hbb,by rw[hb.block g (hv i hi g (by rw[e];rfl))];exact hg,rest⟩
theorem VRows.offT {base n UB c o:Nat}{t:TypeId}{cs:Array Value}{v:Value}{U:Nat->List Int}{V:Nat->Value}{W:World}(h:VRows base n UB U V W)(hc:Bl W c t cs)(h1:192≠t)(h2:c<base):VRows base n UB U V (W.setCell ⟨c,o,none⟩ v):=by
 obtain⟨⟨ds,g1,g2⟩,g3,g4⟩:=h;exact⟨⟨ds,g1.off (g1.ne hc h1),g2⟩,fun i hi=>zau (g3 i hi) h2 _ _,g4⟩
structure OfS (rs:List PR) (ns:List PN) (w:World) (B:Nat) (U:Nat->List Int) (V:Nat->Value) (f:List Nat) (q p m:Nat) (lf:Nat->Nat) (s:Value) (W:World):Prop where
 lo:Below w.heap.size w W
 b:w.heap.size+4<B
 z:B<=W.heap.size
 mks:MkAt ns.length (fun i=>decide (i ∈ f.take q)) (w.heap.size+1) W
 u:VRows (w.heap.size+5) 10000 (w.heap.size+3) U V W
 v:∀i,i<10000->∀g,(V i).ownBlock=some g->g<B
 l:LfAt ns.length lf (w.heap.size+4) W
 fr:W.ownsRow B 3 1 s f.length (intsV (natI f))
 kn:Kn (needW rs ns (lfp rs ns)) (loopW ns (lfp rs ns)) ns.length U f p m lf
section
variable {rs:List PR} {ns:List PN} {w W W':World} {B:Nat} {U:Nat->List Int} {V:Nat->Value} {f:List Nat} {q p m x i:Nat} {lf lf':Nat->Nat} {s s':Value}
theorem OfS.mark (h:OfS rs ns w B U V f p p 0 lf s W)(hx:f[p]?=some x):OfS rs ns w B U V f (p+1) p 0 lf s (W.setCell ⟨w.heap.size+1,x,none⟩ (.bool true)):=by
 have hb:=h.b;obtain⟨cs,hm,-⟩:=id h.mks;have hxN:=h.kn.lt x (List.mem_of_getElem? hx);obtain⟨ds,hl,hl2⟩:=id h.l;refine⟨h.lo.setCell (p:=⟨w.heap.size+1,x,none⟩) (by show _<=w.heap.size+1;omega) _,h.b,by simpa [World.setCell] using h.z,h.mks.put hxN ?_ fun j hj=>?_,h.u.offT hm (by decide) (by omega),h.v,⟨ds,hl.off (by omega),hl2⟩,zau h.fr (by omega) _ _,h.kn⟩
 ·rw[List.take_add_one,hx];simp
 ·rw[List.take_add_one,hx]
  simp[hj]
theorem OfS.down (h:OfS rs ns w B U V f q p m lf s W)(hU:∀i j:Nat,i<ns.length->j<ns.length->(U j).count (i:Int)=(needW rs ns (lfp rs ns) i).count j)(hx:f[p]?=some x)(hm:(U x)[m]?=some (i:Int))(hi:i<ns.length) :
  0<lf i/\(lf i≠1->OfS rs ns w B U V f q p (m+1) (fun j=>if j=i then lf i-1 else lf j) s (W.setCell ⟨w.heap.size+4,i,none⟩ (.int .i64 ((lf i-1:Nat):Int)))) /\
   (lf i=1->∀s' W',W'.ownsRow B 3 1 s' (f++[i]).length (intsV (natI (f++[i])))->Below B (W.setCell ⟨w.heap.size+4,i,none⟩ (.int .i64 ((lf i-1:Nat):Int))) W'->q<=f.length->OfS rs ns w B U V (f++[i]) q p (m+1) (fun j=>if j=i then lf i-1 else lf j) s' W'):=by
 have hb:=h.b;obtain⟨k1,k2,k3⟩:=h.kn.step (lf':=fun j=>if j=i then lf i-1 else lf j) hU hx hm hi (by simp) (fun j hj=>by simp[hj]);have hl:=h.l.put (lf':=fun j=>if j=i then lf i-1 else lf j) (i:=i) (x:=lf i-1) hi (by simp) (fun j hj=>by simp[hj]);obtain⟨cs,hLB,-⟩:=id h.l;obtain⟨ds,hM,hM2⟩:=id h.mks;have hlo:=h.lo.setCell (p:=⟨w.heap.size+4,i,none⟩) (by show _<=w.heap.size+4;omega) (.int .i64 ((lf i-1:Nat):Int));have hz:B<=(W.setCell ⟨w.heap.size+4,i,none⟩ (.int .i64 ((lf i-1:Nat):Int))).heap.size:=by simpa [World.setCell] using h.z
 have hu:=h.u.offT (o:=i) (v:=.int .i64 ((lf i-1:Nat):Int)) hLB (by decide) (by omega);refine⟨k1,fun e=>⟨hlo,h.b,hz,⟨ds,hM.off (by omega),hM2⟩,hu,h.v,hl,zau h.fr (by omega) _ _,k3 e⟩,fun e s' W' ho hbl hq=>?_⟩;obtain⟨es,hL2,hL3⟩:=hl;refine⟨hlo.trans (hbl.mono (by omega)),h.b,Nat.le_trans hz hbl.size,⟨ds,zw1 (hM.off (by omega)) hbl (by omega),fun j hj=>?_⟩,hu.keep h.v (by omega) hbl,h.v,⟨es,zw1 hL2 hbl (by omega),hL3⟩,ho,k2 e⟩;rw[hM2 j hj,List.take_append_of_le_length hq]
theorem OfS.late (h:OfS rs ns w B U V f q p m lf s W)(hb:Below W.heap.size W W'):OfS rs ns w B U V f q p m lf s W':=by
 obtain⟨cs,h1,h2⟩:=id h.mks;exact⟨bl_on h.lo hb,h.b,Nat.le_trans h.z hb.size,⟨cs,h1.below hb,h2⟩,h.u.below hb,h.v,h.l.below hb,zaa h.fr hb,h.kn⟩
theorem OfS.next (h:OfS rs ns w B U V f (p+1) p (U x).length lf s W)(hx:f[p]?=some x):OfS rs ns w B U V f (p+1) (p+1) 0 lf s W:=
 ⟨h.lo,h.b,h.z,h.mks,h.u,h.v,h.l,h.fr,h.kn.round hx⟩
end
theorem z52 (rv nv:Value)(rs:List PR)(ns:List PN)(w:World)(hR:RulesIn w rv rs)(hN:NodesAt w nv ns)(hC:CapsAt w nv ns.length)(hO:FlowOk rs ns) :
  Calls Tryz.prog 82 #[.agg #[rv,nv]] w (OfIs rs ns w):=by
 have hs:=hO.nl;obtain⟨ii,hii,hz0,hz1,hz2⟩:=info_parts za3;have hmk:=fun w=>run_make_row' (P:=Tryz.prog) 58 4 (.bool false) 1 Tryz.underlying58 Tryz.infoBool rfl .i64 .i64 ns.length (by omega) (by omega) w
 have HND:=Lib.hid (fun(W:World) (hb:Below w.heap.size w W)=>zm9 rv nv rs ns W (hR.kept hb (Nat.le_refl _)) (hN.kept hb (Nat.le_refl _)) (hC.kept hN rfl hb) hO);have HOK:=Lib.hid hO;obtain⟨-,na,nc,rfl,-⟩:=id hN;obtain⟨-,ra,rc,rfl,-⟩:=id hR;have h2:=zat w (.cells #[.slice ra rs.length rc,.slice na ns.length nc] 25) (.cells (madeCells #[.bool false] ns.length) 4);have hz:((w.alloc (.cells #[.slice ra rs.length rc,.slice na ns.length nc] 25)).alloc (.cells (madeCells #[.bool false] ns.length) 4)).heap.size=w.heap.size+2:=by simp
 have HN2:=Lib.hid (HND.out _ h2);unfold NdIs at HN2;rw[hz,show w.heap.size+2+1=w.heap.size+3 from rfl,show w.heap.size+2+2=w.heap.size+4 from rfl,show w.heap.size+2+3=w.heap.size+5 from rfl] at HN2;have HG0:Hid (∀W',Below (w.heap.size+2) ((w.alloc (.cells #[.slice ra rs.length rc,.slice na ns.length nc] 25)).alloc (.cells (madeCells #[.bool false] ns.length) 4)) W'->Below w.heap.size w W'/\MkAt ns.length (fun i=>decide (i ∈ ([]:List Nat))) (w.heap.size+1) W'):=Lib.hid (fun W' hb=>by
  have hbl:=hb;rw[<-hz] at hbl;refine⟨bl_on h2 hbl,_,(Bl.new' (by simp)).below hbl,fun i hi=>?_⟩;simp[madeCells,hi,Nat.mod_one])
 have k0:¬(10000:Int)<(ns.length:Int):=by omega
 clear hR hN hC hO HND h2 hz;go_enter Tryz.func82,Tryz.ntmps82
 go_wp2_with (first
  |(go_at_call 118;(with_reducible refine HN2.out.mono ?_);rintro e w3 ⟨U,V,lf,rfl,hu,hd,hl,hlf,hb⟩;obtain⟨hlo3,hmk3⟩:=HG0.out w3 hb;have HU3:=Lib.hid hu;have HD3:=Lib.hid hd;have HL3:=Lib.hid hl;have HLF:=Lib.hid hlf;have HLO3:=Lib.hid hlo3;have HMK3:=Lib.hid hmk3;clear hu hd hl hlf hb hlo3 hmk3)
  |(go_at_call 119;(with_reducible refine(zo2 _ _ _ (by rw[List.length_map,List.length_range];omega) HL3.out.ints).mono ?_);rintro e w4 ⟨s,rfl,ho,hb⟩;have HO4:=Lib.hid ho;have HB4:=Lib.hid hb;clear ho hb))
 have hU:∀i j:Nat,i<ns.length->j<ns.length->(U j).count (i:Int)=(needW rs ns (lfp rs ns) i).count j:=fun i j hi hj=>HD3.out.full hi hj
 have hUl:∀j x,x ∈ U j->∃i:Nat,x=(i:Int)/\i<ns.length:=HD3.out.lt;have hUn:∀j,(U j).length<=40000:=HD3.out.len;have hB:w.heap.size+4<w3.heap.size:=by
  obtain⟨cs,hl,-⟩:=HL3.out;exact hl.lt
 have hst:OfS rs ns w w3.heap.size U V ((List.range ns.length).filter fun i=>decide (lf i=0)) 0 0 0 lf s w4:=by
  have e0:idxP (fun i=>decide ((List.map (fun i=>((lf i:Nat):Int)) (List.range ns.length))[i]?=some 0)) (List.map (fun i=>((lf i:Nat):Int)) (List.range ns.length)).length=natI ((List.range ns.length).filter fun i=>decide (lf i=0)):=by
   rw[List.length_map,List.length_range];refine zs5 fun i hi=>?_
   rw[List.getElem?_map,List.getElem?_range hi,decide_eq_decide];simp
  have ho:=HO4.out;rw[e0,z1g] at ho;obtain⟨cs,g1,g2⟩:=HMK3.out;exact⟨bl_on HLO3.out HB4.out,hB,HB4.out.size,⟨cs,g1.below HB4.out,fun i hi=>by rw[g2 i hi];simp⟩,HU3.out.below HB4.out,fun i hi g e=>((HU3.out.row i hi).lt g e).2,HL3.out.below HB4.out,ho,Kn.start lf HLF.out⟩
 have HST:=Lib.hid hst;have HUC:=Lib.hid hU;clear hst hU HO4 HB4 HMK3 HU3 HL3 HLO3 HLF HD3 HN2 HG0 hmk;generalize w3.heap.size=B at *
 go_loopw [6,7] (fun s c wr=>∃(p:Nat) (f:List Nat) (lf:Nat->Nat),p<=f.length/\c=.int .i64 (p:Int)/\OfS rs ns w B U V f p p 0 lf s wr) (fun _ c _=>ns.length-(intOf c).toNat)
 case atStart=>exact⟨0,_,lf,Nat.zero_le _,rfl,HST.out⟩
 case round=>
  clear HST;obtain⟨p,f,lf,hp,rfl,hq⟩:=hrel;obtain⟨sa,sc,rfl⟩:=zad hq.fr;have hfN:=hq.kn.len;by_cases hlt:p<f.length
  ·have k1:(p:Int)<(f.length:Int):=by omega
   obtain⟨x,hx⟩:∃x,f[p]?=some x:=⟨_,List.getElem?_eq_getElem (by omega)⟩;have hxN:=hq.kn.lt x (List.mem_of_getElem? hx);obtain⟨g,rfl,hgb,hc,-⟩:=zan hq.fr (by omega);have cz:=hc p _ (zw0 hx);have lz:=zac cz;obtain⟨ms,hm,hm2⟩:=hq.mks;have cm:=hm.cell (hm2 x hxN);have fm:=hm.free x;have lm:=hm.lt;have HQ:=Lib.hid hq;have HX:=Lib.hid hx;have x0:(0:Int)<=(x:Int):=by omega
   have x1:(x:Int)<(ns.length:Int):=by omega
   have x2:(x:Int)<10000:=by omega
   clear hq hx hc hm hm2
   go_upto_region 10 with(fail)
   have HQ5:=Lib.hid (HQ.out.mark HX.out);clear cz lz cm fm lm HQ;generalize World.setCell _ _ _=W5 at *;obtain⟨g',e',-,hc,-⟩:=zan HQ5.out.fr (by omega);cases e';have cz:=hc p _ (zw0 HX.out);have lz:=zac cz;obtain⟨va,vc,hvi⟩:=zad (HQ5.out.u.row x (by omega));have cu:=HQ5.out.u.cell (i:=x) (by omega);rw[hvi] at cu;have lu:=HQ5.out.u.lt;have HVI:=Lib.hid hvi;have hul:=hUn x;clear hc hvi
   go_wp2_with fail
   go_quiet (fail)
   go_wp2_with fail
   clear cz lz cu lu
   go_loopw [6,47] (fun s d wx=>∃(t:Nat) (f:List Nat) (lf:Nat->Nat),t<=(U x).length/\d=.int .i64 (t:Int)/\OfS rs ns w B U V f (p+1) p t lf s wx/\f[p]?=some x) (fun _ d _=>(U x).length-(intOf d).toNat)
   case atStart=>exact⟨0,f,lf,Nat.zero_le _,rfl,HQ5.out.late (zak (Below.refl _ _)),HX.out⟩
   case round=>
    clear HQ5 HX hlt k1 hp hfN lf hgb;obtain⟨t,f,lf,ht,rfl,hq,hx⟩:=hrel;obtain⟨sa,sc,rfl⟩:=zad hq.fr;have hfN:=hq.kn.len;by_cases htl:t<(U x).length
    ·have t1:(t:Int)<((U x).length:Int):=by omega
     obtain⟨z,hz⟩:∃z,(U x)[t]?=some z:=⟨_,List.getElem?_eq_getElem htl⟩;obtain⟨i,rfl,hi⟩:=hUl x z (List.mem_of_getElem? hz);have hrow:=hq.u.row x (by omega);rw[HVI.out] at hrow;obtain⟨vg,rfl,-,hc,-⟩:=zan hrow (by omega);have cz:=hc t (.int .i64 (i:Int)) (by unfold intsV;rw[List.getElem?_map,hz];rfl);have lz:=zac cz;have cl:=hq.l.cell hi;have fl:=hq.l.free i;have ll:=hq.l.lt;have i0:(0:Int)<=(i:Int):=by omega
     have i1:(i:Int)<(ns.length:Int):=by omega
     obtain⟨d1,d2,d3⟩:=hq.down HUC.out hx hz hi;have hcn:=hq.kn.cnt i hi;obtain⟨y,hy⟩:∃y,ns[i]?=some y:=⟨_,List.getElem?_eq_getElem hi⟩;have hrd:=zgn HOK.out hy;have hlp:lpN (loopW ns (lfp rs ns)) i<=1:=by unfold lpN;split<;>omega
     have hlf:lf i<=61:=by omega
     have e1:(lf i:Int)-1=((lf i-1:Nat):Int):=by omega
     have hfr:=zau (o:=i) hq.fr (show w.heap.size+4<B by omega) (.int .i64 ((lf i-1:Nat):Int));have hcl:=(hq.l.put (lf':=fun j=>if j=i then lf i-1 else lf j) (i:=i) (x:=lf i-1) hi (by simp) (fun j hj=>by simp[hj])).cell hi;have hz6:B<=(wr.setCell ⟨w.heap.size+4,i,none⟩ (.int .i64 ((lf i-1:Nat):Int))).heap.size:=by simpa [World.setCell] using hq.z
     have hlt6:w.heap.size+4<(wr.setCell ⟨w.heap.size+4,i,none⟩ (.int .i64 ((lf i-1:Nat):Int))).heap.size:=by simpa [World.setCell] using ll
     rw[if_pos rfl] at hcl;have hpl:p+1<=f.length:=(List.getElem?_eq_some_iff.1 hx).1;have D2:=Lib.hid d2;have D3:=Lib.hid d3;have HFR:=Lib.hid hfr;have HCL:=Lib.hid hcl;have HX:=Lib.hid hx;have HZ6:=Lib.hid hz6;have HL6:=Lib.hid hlt6;have HE:=Lib.hid e1;clear hq hc hrow d2 d3 hfr hcl hx hz6 hlt6 e1 hz hcn hy hrd hlp
     go_upto_region 14 with(fail)
     rw[HE.out];clear cz lz cl fl ll;generalize World.setCell _ _ _=W6 at *;have cl:=HCL.out;have ll:=HL6.out;by_cases e:lf i=1
     ·rw[e] at cl
      have hz0':=HZ6.out;have HD:=Lib.hid (D3.out e);have hsn:=zwz f i;have HSN:=Lib.hid hsn;have HW:=Lib.hid (show W6=W6 from rfl);clear D2 D3 hsn
      go_wp2_with (at_builtin;(refine wpList_append_own _ rfl _ _ 29 rfl B 3 ii _ 1 8 Tryz.underlying29 hii hz0 hz1 hz2 rfl (by decide) _ f.length _ rfl (zaa HFR.out (zab _ _)) ⟨_,0,none⟩ 1 1 [.int .i64 (i:Int)] rfl rfl (Bl.news (Bl.new _ 3 _)) (by simp[Value.oneCell']) (by unfold maxLen;omega) (by omega) (by have:=HZ6.out;simp;omega) ?_;intro v5 w5 hown' hgrow _;have HO5:=Lib.hid hown';have HB5:=Lib.hid ((Below.alloc (Below.refl B W6) HZ6.out _).grown hgrow (Nat.le_trans HZ6.out (zab W6 _).size) (fun g e=>(HFR.out.lt g e).1));clear hown' hgrow))
      go_roundw
      case rel=>exact⟨t+1,f++[i],_,by omega,by go_num,HD.out _ _ (by rw[HSN.out,List.length_append,zbb];exact HO5.out) HB5.out hpl,by rw[List.getElem?_append_left (by omega)];exact HX.out⟩
      case measure=>simp[intOf];omega
     ·have q0:(((lf i-1:Nat):Int) == 0)=false:=zaj (by omega)
      have HD:=Lib.hid (D2.out e);clear D2 D3;go_wp2;go_roundw
      case rel=>exact⟨t+1,f,_,by omega,by go_num,HD.out,HX.out⟩
      case measure=>simp[intOf];omega
    ·obtain rfl:t=(U x).length:=by omega
     have t1:¬((U x).length:Int)<((U x).length:Int):=by omega
     have HQ:=Lib.hid hq;have HX:=Lib.hid hx;have hpl:p+1<=f.length:=(List.getElem?_eq_some_iff.1 hx).1;clear hq hx;go_wp2;refine⟨⟨p+1,f,lf,hpl,by go_num,HQ.out.next HX.out⟩,by simp[intOf];omega⟩
  ·obtain rfl:p=f.length:=by omega
   have k1:¬(f.length:Int)<(f.length:Int):=by omega
   have HQ:=Lib.hid hq;clear hq;go_wp2;go_ret;refine⟨rfl,HQ.out.mks.bools (zpf rs ns) fun i hi=>?_,HQ.out.lo⟩;rw[z3u hi,List.take_length];congr 1;rw[Bool.eq_iff_iff,z3v HOK.out hi,decide_eq_true_eq];exact(HQ.out.kn.over (Nat.le_refl _) HUC.out (zle HOK.out.ok) hi).symm
theorem zfa {P:Program}(w:World){ops:Array Oper}{rest:List Oper}{o:Oper}{a:Act}{Q:Exit->Act->World->Prop}(hgd:o.guard=none)(s x:Operand)(t:TypeId)
  (ho:o.op=.call { callee:=.builtin .append,args:=#[s,x],argTypes:=#[t,t] })
  (base:Nat) (e:TypeId) (i:TypeInfo) (z:Value) (size bytes:Nat) (ht:P.underlying t=some (.slice e)) (hi:P.info? e=some i) (hz:i.zero=some z)
  (hsize:i.size=size) (hby:i.bytes=bytes) (hzs:z.cells.size=size) (hsz:0<size) (hs:a.eval s=.slice none 0 0)
  (ka:Option Addr) (m c:Nat) (news:List Value) (hx:a.eval x=.slice ka m c) (hl:news.length=m*size) (ha:m=0∨∃b off,ka=some ⟨b,off,none⟩/\∀j u,news[j]?=some u->w.cell? ⟨b,off+j,none⟩=some u) (h1:∀u ∈ news,u.oneCell'=true)
  (h63:m<=maxLen) (hbytes:m*bytes<=140737488355328) (hbase:base<=w.heap.size)
  (h:∀a' c' w',w'.ownsRow base e size (.slice a' m c') m news->w.grownBy w' none->wpList P ops Q rest (a.put o.dst (.slice a' m c')) w'):wpList P ops Q (o::rest) a w:=by
 refine wpList_plain hgd fun K hK=>?_
 obtain⟨v',w',hr,h2,h3,-⟩:=zd6 (P:=P) w base t o.type e i z size bytes ht hi hz hsize hby hzs hsz ka m c news hl ha h1 h63 hbytes hbase;obtain⟨a',c',rfl⟩:∃a' c',v'=.slice a' m c':=by
  rcases h2.2 with⟨e,e0⟩|⟨g,cap,cur,e,-⟩
  ·exact⟨none,0,by rw[e,e0]⟩
  ·exact⟨_,_,e⟩
 unfold Oper.wp execOp;simp only[ho,resolve,invoke,builtin,Sem.run_bind,Sem.run_pure,Result.andThen_ok,List.map_toArray,List.map_cons,List.map_nil,hs,hx,hr];exact hK _ _ (h a' c' w' h2 h3)
def badL (rs:List PR)(ns:List PN):List Int:=idxP (fun i=>decide ((wfL rs ns)[i]?=some false)) ns.length
theorem RowIs.mono {r:List Int}{w w1 w':World}{e:Ending}(h:RowIs r w1 e w')(hb:Below w.heap.size w w1):RowIs r w e w':=by
 obtain⟨v,h1,h2,h3⟩:=h;exact⟨v,h1,zax h2 hb.size,bl_on hb h3⟩
theorem zjx (rv nv:Value)(rs:List PR)(ns:List PN)(w:World)(hR:RulesIn w rv rs)(hN:NodesAt w nv ns)(hC:CapsAt w nv ns.length)(hO:FlowOk rs ns) :
  Calls Tryz.prog 50 #[.agg #[rv,nv]] w (RowIs (badL rs ns) w):=by
 have hone:=Lib.hid (zab w (.cells #[rv,nv] 25));have HW:=Lib.hid (z52 rv nv rs ns _ (hR.kept hone.out (Nat.le_refl _)) (hN.kept hone.out (Nat.le_refl _)) (hC.kept hN rfl hone.out) hO);have hz:(w.alloc (.cells #[rv,nv] 25)).heap.size=w.heap.size+1:=by simp
 unfold OfIs at HW;rw[hz] at HW;have HZ:=Lib.hid hz;have hs:=hO.nl;have HL:=Lib.hid (zpf rs ns);have HB:Hid (badL rs ns=idxP (fun i=>decide ((wfL rs ns)[i]?=some false)) (wfL rs ns).length):=Lib.hid (by rw[zpf];rfl);obtain⟨-,ra,rc,rfl,-⟩:=hR;obtain⟨-,na,nc,rfl,-⟩:=hN;generalize wfL rs ns=l at *;clear hC hO hz;go_enter Tryz.func50,Tryz.ntmps50
 go_wp2_with (first
  |(go_at_call 82;(with_reducible refine HW.out.mono ?_);rintro e w2 ⟨rfl,hm,hb⟩;have HM:=Lib.hid hm;have HB2:=Lib.hid hb;clear hm hb)
  |(go_at_call 81;(with_reducible refine(zo3 _ l _ (by rw[HL.out];omega) HM.out).mono ?_);rintro e w3 ⟨v,rfl,ho,hb⟩;have HO3:=Lib.hid ho;have HB3:=Lib.hid hb;clear ho hb))
 go_ret;have hb2:=HB2.out;rw[<-HZ.out] at hb2;have hb:=bl_on hone.out hb2;exact⟨v,rfl,by rw[HB.out];exact zax HO3.out hb.size,bl_on hb HB3.out⟩
theorem ztd (rv nv:Value)(rs:List PR)(ns:List PN)(w:World)(hR:RulesIn w rv rs)(hN:NodesAt w nv ns)(hO:FlowOk rs ns) :
  Calls Tryz.prog 23 #[.agg #[rv,nv]] w (RowIs (idxP (loopW ns (lfp rs ns)) ns.length) w):=by
 have hs:=hO.nl;have hone:=Lib.hid (zab w (.cells #[rv,nv] 25));have HF:=Lib.hid (zwh rv nv rs ns _ (hR.kept hone.out (Nat.le_refl _)) (hN.kept hone.out (Nat.le_refl _)) hO);have HN:=Lib.hid hN;have H5:=Lib.hid (fun n hn=>(hO.ok n hn).ok.one);obtain⟨-,ra,rc,rfl,-⟩:=hR;obtain⟨-,na,nc,rfl,-⟩:=hN;unfold NewF at HF;rw[za7] at HF;generalize lfp rs ns=L at *;have HG:=Lib.hid (Bl.new w 25 #[.slice ra rs.length rc,.slice na ns.length nc]);clear hO;go_enter Tryz.func23,Tryz.ntmps23
 go_wp2_with (first
  |(go_at_call 45;(with_reducible refine HF.out.mono ?_);rintro e w2 ⟨fa,fc,rfl,hf,hb⟩;have HF2:=Lib.hid (hf.below (zab w2 (.cells #[.slice fa ns.length fc] 72)));have HB2:=Lib.hid (zar (o:=.cells #[.slice fa ns.length fc] 72) (bl_on hone.out hb));have g1:w2.cell? ⟨w.heap.size,1,none⟩=some (.slice na ns.length nc):=(HG.out.below hb).cell (o:=1) rfl;have lg:=(HG.out.below hb).lt;clear hf hb)
  |(go_at_call 46;(with_reducible refine(zo4 _ _ ns L _ _ (by omega) (HN.out.kept HB2.out (Nat.le_refl _)) HF2.out H5.out (by simp)).mono ?_);rintro e w3 ⟨v,rfl,ho,hb⟩;have HO3:=Lib.hid ho;have HB3:=Lib.hid hb;clear ho hb))
 go_ret;exact⟨v,rfl,zax HO3.out HB2.out.size,bl_on HB2.out HB3.out⟩
def z3w (l:List Int)(w:World)(e:Ending)(w':World):Prop:=∃a c,e=.returned (.slice a l.length c)/\w'.ownsRow w.heap.size 3 1 (.slice a l.length c) l.length (intsV l)/\Below w.heap.size w w'
theorem zpg (rv nv:Value)(rs:List PR)(ns:List PN)(i:Nat)(n:PN)(w:World)(hR:RulesIn w rv rs)(hN:NodesAt w nv ns)(hC:CapsAt w nv ns.length)(hO:FlowOk rs ns)(hn:ns[i]?=some n) :
  Calls Tryz.prog 32 #[.agg #[rv,nv],.int .i64 (i:Int)] w (z3w (needN rs (lfp rs ns) n) w):=by
 have hs:=hO.nl;obtain⟨ii,hii,hz0,hz1,hz2⟩:=info_parts za3;have hil:=(List.getElem?_eq_some_iff.1 hn).1;have hmem:=List.mem_of_getElem? hn;obtain⟨hq60,-,-⟩:=zgn hO hn;obtain⟨-,na,nc,rfl,hna⟩:=id hN;rcases hna with h0|⟨nb,no,rfl,hca⟩
 ·rw[h0] at hil;exact absurd hil (Nat.not_lt_zero _)
 obtain⟨kv,c0,c1,c2,c3,c4,c5,c6,hki,-⟩:=hca i n hn;have lr:=zac c0;obtain⟨ka,kc,rfl,-⟩:=id hki;have hkc:=hC nb no _ _ rfl i hil _ _ _ c1;obtain⟨-,ra,rc,rfl,-⟩:=id hR;have htwo:=Lib.hid (zat w (.cells #[.slice ra rs.length rc,.slice (some ⟨nb,no,none⟩) ns.length nc] 25) (.cells #[.int .i64 n.op,.slice ka n.kids.length kc,.int .i64 n.rule,.int .u64 n.s0,.int .u64 n.s1,.int .u64 n.s2,.int .u64 n.s3] 51));have HN:=Lib.hid (fun(W:World) (hb:Below w.heap.size w W) (v:Value) (hF:n.op=3->FactsAt W v (lfp rs ns))=>zjm (.slice ra rs.length rc) (.slice (some ⟨nb,no,none⟩) ns.length nc) v rs ns.length (lfp rs ns) n ka kc W (hR.kept hb (Nat.le_refl _)) (hki.kept hb (Nat.le_refl _)) hkc (by have:=hO.kl n hmem;omega) hF (hO.ok n hmem));have HF:=Lib.hid (zwh _ _ rs ns _ (hR.kept htwo.out (Nat.le_refl _)) (hN.kept htwo.out (Nat.le_refl _)) hO);have i0:¬(i:Int)<0:=by omega
 have i1:¬(ns.length:Int)<=(i:Int):=by omega
 have i2:(i:Int)<(ns.length:Int):=by omega
 unfold NewF at HF;rw[za7] at HF;unfold NeedsIs at HN;generalize lfp rs ns=L at *;generalize needN rs L n=q at *;have HG:=Lib.hid (show Bl ((w.alloc (.cells #[.slice ra rs.length rc,.slice (some ⟨nb,no,none⟩) ns.length nc] 25)).alloc (.cells #[.int .i64 n.op,.slice ka n.kids.length kc,.int .i64 n.rule,.int .u64 n.s0,.int .u64 n.s1,.int .u64 n.s2,.int .u64 n.s3] 51)) w.heap.size 25 #[.slice ra rs.length rc,.slice (some ⟨nb,no,none⟩) ns.length nc] from Bl.past (Bl.new w _ _));have HM:=Lib.hid (show Bl ((w.alloc (.cells #[.slice ra rs.length rc,.slice (some ⟨nb,no,none⟩) ns.length nc] 25)).alloc (.cells #[.int .i64 n.op,.slice ka n.kids.length kc,.int .i64 n.rule,.int .u64 n.s0,.int .u64 n.s1,.int .u64 n.s2,.int .u64 n.s3] 51)) (w.heap.size+1) 51 #[.int .i64 n.op,.slice ka n.kids.length kc,.int .i64 n.rule,.int .u64 n.s0,.int .u64 n.s1,.int .u64 n.s2,.int .u64 n.s3] from Bl.new' (by simp));clear hR hN hC hO hn hca hki hmem;by_cases e3:n.op=3
 ·rw[e3] at c0 htwo HN HF HG HM
  clear e3;go_enter Tryz.func32,Tryz.ntmps32
  go_wp2_with (first
   |(go_at_call 45;(with_reducible refine HF.out.mono ?_);rintro e w2 ⟨fa,fc,rfl,hf,hb⟩;have HB2:=Lib.hid (bl_on htwo.out hb);have HC2:=Lib.hid (HN.out w2 HB2.out _ (fun _=>hf));have g0:w2.cell? ⟨w.heap.size,0,none⟩=some (.slice ra rs.length rc):=(HG.out.below hb).cell (o:=0) rfl;have g1:w2.cell? ⟨w.heap.size,1,none⟩=some (.slice (some ⟨nb,no,none⟩) ns.length nc):=(HG.out.below hb).cell (o:=1) rfl;have lg:=(HG.out.below hb).lt;have hm2:=HM.out.below hb;have m0:=hm2.cell (o:=0) rfl;have m1:=hm2.cell (o:=1) rfl;have m2:=hm2.cell (o:=2) rfl;have m3:=hm2.cell (o:=3) rfl;have m4:=hm2.cell (o:=4) rfl;have m5:=hm2.cell (o:=5) rfl;have m6:=hm2.cell (o:=6) rfl;have lm:=hm2.lt;clear hf hb hm2)
   |(go_at_call 61;(with_reducible refine HC2.out.mono ?_);rintro e w3 ⟨a,c,rfl,hi,hb,-⟩;have HB3:=Lib.hid (bl_on HB2.out hb);have HI3:=Lib.hid hi.src;clear hi hb)
   |(at_builtin;(refine zfa _ rfl _ _ 29 rfl w.heap.size 3 ii (.int .i64 0) 1 8 Tryz.underlying29 hii hz0 hz1 hz2 rfl (by decide) rfl a q.length c (intsV q) rfl (by unfold intsV;rw[List.length_map,Nat.mul_one]) HI3.out (ints_oneCell .i64 q) (by unfold maxLen;omega) (by omega) (HB3.out.size) ?_);intro a5 c5 w5 hown5 hgrow5;have HB5:=Lib.hid (bl_on HB3.out (zdc hgrow5));have HO5:=Lib.hid hown5;clear hown5 hgrow5))
  go_ret;exact⟨a5,c5,rfl,HO5.out,HB5.out⟩
 ·have q3:(n.op == 3)=false:=zaj e3
  have HC2:=Lib.hid (HN.out _ htwo.out (.slice none 0 0) (fun h=>absurd h e3));go_enter Tryz.func32,Tryz.ntmps32
  go_wp2_with (first
   |(go_at_call 61;(with_reducible refine HC2.out.mono ?_);rintro e w3 ⟨a,c,rfl,hi,hb,-⟩;have HB3:=Lib.hid (bl_on htwo.out hb);have HI3:=Lib.hid hi.src;clear hi hb)
   |(at_builtin;(refine zfa _ rfl _ _ 29 rfl w.heap.size 3 ii (.int .i64 0) 1 8 Tryz.underlying29 hii hz0 hz1 hz2 rfl (by decide) rfl a q.length c (intsV q) rfl (by unfold intsV;rw[List.length_map,Nat.mul_one]) HI3.out (ints_oneCell .i64 q) (by unfold maxLen;omega) (by omega) (HB3.out.size) ?_);intro a5 c5 w5 hown5 hgrow5;have HB5:=Lib.hid (bl_on HB3.out (zdc hgrow5));have HO5:=Lib.hid hown5;clear hown5 hgrow5))
  go_ret;exact⟨a5,c5,rfl,HO5.out,HB5.out⟩
def zng (rs:List PR)(i:Nat):ByteArray:=match rs[ownL rs (i:Int)]? with|some x=>x.name|none=>⟨#[]⟩
theorem zte (rv nv:Value)(rs:List PR)(ns:List PN)(i:Nat)(w:World)(hR:RulesIn w rv rs)(hN:NodesAt w nv ns)(hU:RootsUp (-1) rs)(hs:rs.length<=1000000)(hnm:∀r,r ∈ rs->r.name.size<=1000)(ho:ownL rs (i:Int)<rs.length) :
  Calls Tryz.prog 52 #[.agg #[rv,nv],.int .i64 (i:Int)] w fun e w'=>e=.returned (.string (zng rs i))/\Below w.heap.size w w':=by
 have hone:=Lib.hid (zab w (.cells #[rv,nv] 25));obtain⟨-,na,nc,rfl,-⟩:=hN;have HO:=Lib.hid (zvk rv na ns.length nc rs (i:Int) _ hs (hR.kept hone.out (Nat.le_refl _)) (-1) hU);obtain⟨x,hx⟩:∃x,rs[ownL rs (i:Int)]?=some x:=⟨_,List.getElem?_eq_getElem ho⟩;obtain⟨-,ra,rc,rfl,hra⟩:=id hR;have HNM:=Lib.hid (show zng rs i=x.name by unfold zng;rw[hx]);have hsz:=hnm x (List.mem_of_getElem? hx);rcases hra with h|⟨rb,ro,rfl,hca⟩
 ·rw[h] at ho;exact absurd ho (Nat.not_lt_zero _)
 obtain⟨r0,-⟩:=hca _ x hx;have lr:=zac r0;have HG:=Lib.hid (Bl.new w 25 #[.slice (some ⟨rb,ro,none⟩) rs.length rc,.slice na ns.length nc]);have HR0:=Lib.hid r0;generalize ownL rs (i:Int)=o at *;have k1:¬(rs.length:Int)<=(o:Int):=by omega
 have k2:(o:Int)<(rs.length:Int):=by omega
 clear hR hU hnm hca hx r0;go_enter Tryz.func52,Tryz.ntmps52
 go_wp2_with (first
  |(go_at_call 84;(with_reducible refine HO.out.mono ?_);rintro e w2 ⟨rfl,hb⟩;have g0:w2.cell? ⟨w.heap.size,0,none⟩=some (.slice (some ⟨rb,ro,none⟩) rs.length rc):=(HG.out.below hb).cell (o:=0) rfl;have lg:=(HG.out.below hb).lt;have HB2:=Lib.hid (bl_on hone.out hb);have r0:=HR0.out;rw[<-(bcell HB2.out).1 _ _ lr] at r0;have lr2:=zac r0;clear hb)
  |(go_at_call 85;(with_reducible refine(zed x.name _ (by omega)).mono ?_);rintro e w3 ⟨rfl,hb⟩;have HB3:=Lib.hid (bl_on HB2.out hb);clear hb))
 go_ret;exact⟨by rw[HNM.out];rfl,HB3.out⟩
end Go.Proofs.YthhppmehhdlmnaaGreatDoor
