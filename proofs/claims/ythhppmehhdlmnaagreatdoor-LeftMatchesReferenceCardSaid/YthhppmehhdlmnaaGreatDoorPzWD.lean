/- The zero value of the array of lists: 10000 slices that are nil. wf: needersOf. wf: needersOf, the walk. Written by wip/gen/wfndw.py. wf.Of: the search by count -/
import Derived.Deep.WholeRow
import Derived.Deep.Cut
import Derived.Shelf.Strconv.Clone
import Derived.Test.YthhppmehhdlmnaaGreatDoorPzB
import Derived.Test.YthhppmehhdlmnaaGreatDoorPzLexStr
import Derived.Test.YthhppmehhdlmnaaGreatDoorPzFM
import Derived.Test.YthhppmehhdlmnaaGreatDoorPzGA
import Derived.Test.YthhppmehhdlmnaaGreatDoorPzWN
import Derived.Test.YthhppmehhdlmnaaGreatDoorPzFU
set_option maxRecDepth 100000
set_option maxHeartbeats 4000000
namespace Go.Proofs.YthhppmehhdlmnaaGreatDoor
open Go.RowKit
def nilS:Value:=.slice none 0 0
structure Nils (n:Nat) (l:List Value):Prop where
 is:l=List.replicate n nilS
theorem Nils.app {n m k:Nat}{a b:List Value}(h:Nils n a)(g:Nils m b)(e:n+m=k):Nils k (a.append b):=by
 refine⟨?_⟩;show a++b=_;rw[h.is,g.is,<-e,List.replicate_append_replicate]
structure VRows (base n UB:Nat) (U:Nat->List Int) (V:Nat->Value) (W:World):Prop where
 bl:∃cs,Bl W UB 192 cs/\∀i,i<n->cs[i]?=some (V i)
 row:∀i,i<n->W.ownsRow base 3 1 (V i) (U i).length (intsV (U i))
 apart:∀i j,i<n->j<n->i≠j->(V i).ownBlock=none∨(V i).ownBlock≠(V j).ownBlock
section
variable {base n UB:Nat} {U:Nat->List Int} {V:Nat->Value} {W W':World}
theorem VRows.below (h:VRows base n UB U V W)(hb:Below W.heap.size W W'):VRows base n UB U V W':=by
 obtain⟨⟨cs,h1,h2⟩,h3,h4⟩:=h;exact⟨⟨cs,h1.below hb,h2⟩,fun i hi=>zaa (h3 i hi) hb,h4⟩
theorem VRows.lt (h:VRows base n UB U V W):UB<W.heap.size:=by obtain⟨⟨cs,h1,-⟩,-⟩:=h;exact h1.lt
theorem VRows.cell {i:Nat}(h:VRows base n UB U V W)(hi:i<n):W.cell? ⟨UB,i,none⟩=some (V i):=by obtain⟨⟨cs,h1,h2⟩,-⟩:=h;exact h1.cell (h2 i hi)
theorem VRows.free (h:VRows base n UB U V W)(o:Nat):W.frozen? ⟨UB,o,none⟩=false:=by obtain⟨⟨cs,h1,h2⟩,-⟩:=h;exact h1.free o
theorem VRows.off {c o:Nat}{v:Value}(h:VRows base n UB U V W)(hc:UB≠c)(hl:c<base):VRows base n UB U V (W.setCell ⟨c,o,none⟩ v):=by
 obtain⟨⟨cs,h1,h2⟩,h3,h4⟩:=h;exact⟨⟨cs,h1.off hc,h2⟩,fun i hi=>zau (h3 i hi) hl _ _,h4⟩
theorem VRows.add {k:Nat}{x:Int}{v5:Value}(h:VRows base n UB U V W)(hk:k<n)(ho:W'.ownsRow base 3 1 v5 ((U k).length+1) (intsV (U k)++[.int .i64 x]))(hg:W.grownBy W' (V k).ownBlock)
  (hv:v5.ownBlock=(V k).ownBlock∨v5.ownBlock=some W.heap.size):VRows base n UB (updU U k (U k++[x])) (updU V k v5) (W'.setCell ⟨UB,k,none⟩ v5):=by
 obtain⟨⟨cs,h1,h2⟩,h3,h4⟩:=h;have h1':Bl W' UB 192 cs:=h1.grown hg (fun g e=>by obtain⟨c,fz,hc⟩:=Lib.ownsRow_kind (h3 k hk) g e;exact⟨c,3,fz,hc,by decide⟩);have hlt:∀i,i<n->∀g,(V i).ownBlock=some g->g<W.heap.size:=fun i hi g e=>((h3 i hi).lt g e).2
 refine⟨⟨_,h1'.set' v5,fun i hi=>?_⟩,fun i hi=>?_,fun i j hi hj hne=>?_⟩
 ·unfold updU
  by_cases e:i=k
  ·subst e
   rw[if_pos rfl];exact Array.getElem?_setIfInBounds_self_of_lt (Array.getElem?_eq_some_iff.1 (h2 i hi)).1
  ·rw[if_neg e,Array.getElem?_setIfInBounds_ne (by omega)]
   exact h2 i hi
 ·unfold updU
  by_cases e:i=k
  ·subst e
   rw[if_pos rfl,if_pos rfl,List.length_append,zbb];exact ownsRow_setCell_other ho (a:=⟨UB,i,none⟩) (za9 ho ⟨_,_,h1'⟩ (by decide)) _
  ·rw[if_neg e,if_neg e]
   have hr:W'.ownsRow base 3 1 (V i) (U i).length (intsV (U i)):=(h3 i hi).kept hg (h4 i k hi hk e);exact ownsRow_setCell_other hr (a:=⟨UB,k,none⟩) (za9 hr ⟨_,_,h1'⟩ (by decide)) _
 ·unfold updU
  by_cases e:i=k
  ·subst e
   rw[if_pos rfl,if_neg (by omega)];rcases hv with hv|hv
   ·rw[hv];exact h4 i j hi hj hne
   ·right
    rw[hv];intro e2;have:=hlt j hj _ e2.symm;omega
  ·rw[if_neg e]
   by_cases e2:j=k
   ·subst e2
    rw[if_pos rfl];rcases hv with hv|hv
    ·rw[hv];exact h4 i j hi hj hne
    ·cases hvi:(V i).ownBlock with
     |none=>left;rfl
     |some g=>
      right;rw[hv];intro e3;have:=hlt i hi g hvi;injection e3 with e3;omega
   ·rw[if_neg e2];exact h4 i j hi hj hne
end
theorem Kp.low {base n xb yb:Nat}{t:TypeId}{w w':World}(h:Kp base xb yb t w w')(hn:n<=base)(hx:n<=xb)(hy:n<=yb)(hs:n<=w.heap.size):Below n w w':=
 ⟨h.os,h.tape,h.output,h.size,fun k hk=>h.block k (by omega) (by omega) (by omega) (.inl (by omega))⟩
theorem Kp.blow {base xb yb b:Nat}{t t1:TypeId}{cs:Array Value}{w w':World}(h:Kp base xb yb t1 w w')(hv:Bl w b t cs)(hx:b≠xb)(hy:b≠yb)(hb:b<base):Bl w' b t cs:=by
 unfold Bl at hv ⊢;rw[h.block b (Array.getElem?_eq_some_iff.1 hv).1 hx hy (.inl hb)];exact hv
def LfAt (N:Nat)(lf:Nat->Nat)(b:Nat)(W:World):Prop:=∃cs,Bl W b 3 cs/\∀i,i<N->cs[i]?=some (.int .i64 (lf i:Int))
theorem LfAt.put {N b i x:Nat}{lf lf':Nat->Nat}{W:World}(h:LfAt N lf b W)(hi:i<N)(h1:lf' i=x)(h2:∀j,j≠i->lf' j=lf j):LfAt N lf' b (W.setCell ⟨b,i,none⟩ (.int .i64 (x:Int))):=by
 obtain⟨cs,g1,g2⟩:=h;refine⟨_,g1.set' _,fun j hj=>?_⟩;by_cases e:j=i
 ·subst e
  rw[h1];exact Array.getElem?_setIfInBounds_self_of_lt (Array.getElem?_eq_some_iff.1 (g2 j hj)).1
 ·rw[Array.getElem?_setIfInBounds_ne (by omega),h2 j e]
  exact g2 j hj
theorem LfAt.cell {N b i:Nat}{lf:Nat->Nat}{W:World}(h:LfAt N lf b W)(hi:i<N):W.cell? ⟨b,i,none⟩=some (.int .i64 (lf i:Int)):=by obtain⟨cs,g1,g2⟩:=h;exact g1.cell (g2 i hi)
theorem LfAt.lt {N b:Nat}{lf:Nat->Nat}{W:World}(h:LfAt N lf b W):b<W.heap.size:=by obtain⟨cs,g1,g2⟩:=h;exact g1.lt
theorem LfAt.free {N b:Nat}{lf:Nat->Nat}{W:World}(h:LfAt N lf b W)(o:Nat):W.frozen? ⟨b,o,none⟩=false:=by obtain⟨cs,g1,g2⟩:=h;exact g1.free o
theorem LfAt.below {N b:Nat}{lf:Nat->Nat}{W W':World}(h:LfAt N lf b W)(hb:Below W.heap.size W W'):LfAt N lf b W':=by obtain⟨cs,g1,g2⟩:=h;exact⟨cs,g1.below hb,g2⟩
structure NdSt (rs:List PR) (ns:List PN) (rv nv:Value) (w:World) (lf:Nat->Nat) (k t c:Nat) (W:World):Prop where
 lo:Below w.heap.size w W
 g:Bl W w.heap.size 25 #[rv,nv]
 u:∃U V,VRows (w.heap.size+3) 10000 (w.heap.size+1) U V W/\NdU (needW rs ns (lfp rs ns)) ns.length k t c U
 l:LfAt ns.length lf (w.heap.size+2) W
 f:FBk W (w.heap.size+4) 120 (lfp rs ns)
section
variable {rs:List PR} {ns:List PN} {rv nv:Value} {w W W':World} {lf lf':Nat->Nat} {k t c:Nat}
theorem NdSt.below (h:NdSt rs ns rv nv w lf k t c W)(hb:Below W.heap.size W W'):NdSt rs ns rv nv w lf k t c W':=by
 obtain⟨h1,h2,⟨U,V,h3,h4⟩,h5,h6⟩:=h;exact⟨bl_on h1 hb,h2.below hb,⟨U,V,h3.below hb,h4⟩,h5.below hb,h6.below hb⟩
theorem NdSt.put {i x:Nat}(h:NdSt rs ns rv nv w lf k t c W)(hi:i<ns.length)(h1:lf' i=x)(h2:∀j,j≠i->lf' j=lf j):NdSt rs ns rv nv w lf' k t c (W.setCell ⟨w.heap.size+2,i,none⟩ (.int .i64 (x:Int))):=by
 obtain⟨a1,a2,⟨U,V,a3,a4⟩,a5,a6⟩:=h;exact⟨a1.setCell (p:=⟨w.heap.size+2,i,none⟩) (by show _<=w.heap.size+2;omega) _,a2.off (by omega),⟨U,V,a3.off (by omega) (by omega),a4⟩,a5.put hi h1 h2,a6.off (by omega)⟩
theorem NdSt.turn {U:Nat->List Int}{V:Nat->Value}{t' c':Nat}(h:NdSt rs ns rv nv w lf k t c W)(hk:Kp (w.heap.size+3) (w.heap.size+1) (w.heap.size+1) 3 W W')(hu:VRows (w.heap.size+3) 10000 (w.heap.size+1) U V W')(hd:NdU (needW rs ns (lfp rs ns)) ns.length k t' c' U):NdSt rs ns rv nv w lf k t' c' W':=by
 obtain⟨a1,a2,-,⟨cs,a5,a6⟩,⟨ds,a7,a8⟩⟩:=h;exact⟨a1.trans (hk.low (by omega) (by omega) (by omega) a1.size),hk.blow a2 (by omega) (by omega) (by omega),⟨U,V,hu,hd⟩,⟨cs,hk.blow a5 (by omega) (by omega) (by omega),a6⟩,⟨ds,hk.bl a7 (by omega) (by omega) (by decide),a8⟩⟩
end
def NdV (w:World)(B:Nat)(v:Value)(l:List Int)(W:World):Prop:=IntsAt w v l∨∃X x,v=.slice (some ⟨X,0,none⟩) 1 1/\l=[x]/\B<=X/\W.cell? ⟨X,0,none⟩=some (.int .i64 x)
theorem NdV.below {w W W':World}{B:Nat}{v:Value}{l:List Int}(h:NdV w B v l W)(hb:Below W.heap.size W W'):NdV w B v l W':=by
 rcases h with h|⟨X,x,h1,h2,h3,h4⟩
 ·exact .inl h
 ·exact .inr ⟨X,x,h1,h2,h3,by rw[(bcell hb).1 _ _ (zac h4)];exact h4⟩
theorem NdV.put {w W:World}{B c o:Nat}{u v:Value}{l:List Int}(h:NdV w B v l W)(hc:c<B):NdV w B v l (W.setCell ⟨c,o,none⟩ u):=by
 rcases h with h|⟨X,x,h1,h2,h3,h4⟩
 ·exact .inl h
 ·refine .inr ⟨X,x,h1,h2,h3,?_⟩
  rw[<-h4];exact World.cell?_of_block (a:=⟨X,0,none⟩) (heap_setCell_other _ _ _ _ (by show X≠c;omega))
theorem NdV.cell {w W:World}{B n c t:Nat}{a:Option Addr}{l:List Int}{x:Int}(h:NdV w B (.slice a n c) l W)(hb:Below w.heap.size w W)(hx:l[t]?=some x):∃b off,a=some ⟨b,off,none⟩/\W.cell? ⟨b,off+t,none⟩=some (.int .i64 x):=by
 rcases h with h|⟨X,y,h1,h2,h3,h4⟩
 ·obtain⟨b,off,e,hc⟩:=h.cell hx
  exact⟨b,off,e,by rw[(bcell hb).1 _ _ (zac hc)];exact hc⟩
 ·injection h1 with e1 e2 e3
  subst h2;cases t with
  |zero=>
   obtain rfl:y=x:=by simpa using hx
   exact⟨X,0,e1,h4⟩
  |succ t=>simp at hx
theorem NdV.of {rs:List PR}{L:List Fc}{n:PN}{w wr w5:World}{a ka:Option Addr}{c kc:Nat}(hK:IntsAt w (.slice ka n.kids.length kc) n.kids)(hi:IntsAt w5 (.slice a (needN rs L n).length c) (needN rs L n))
  (h:(a=ka/\c=kc/\needN rs L n=n.kids.take (needN rs L n).length)∨∃X x,a=some ⟨X,0,none⟩/\c=1/\needN rs L n=[x]/\wr.heap.size<=X):NdV w wr.heap.size (.slice a (needN rs L n).length c) (needN rs L n) w5:=by
 rcases h with⟨e1,e2,e3⟩|⟨X,x,e1,e2,e3,e4⟩
 ·left
  subst e1 e2;have hl:(needN rs L n).length<=n.kids.length:=by have h:=congrArg List.length e3;rw[List.length_take] at h;omega
  have:=hK.take hl;rw[<-e3] at this;exact this
 ·right
  obtain⟨b,off,e,hc⟩:=hi.cell (i:=0) (x:=x) (by rw[e3];rfl);rw[e1] at e;cases e;exact⟨X,x,by rw[e1,e2,e3];rfl,e3,e4,hc⟩
def CapsAt (w:World)(nv:Value)(N:Nat):Prop:=∀b off n c,nv=.slice (some ⟨b,off,none⟩) n c->∀i,i<N->∀a m d,w.cell? ⟨b,off+i*7+1,none⟩=some (.slice a m d)->m<=d
theorem CapsAt.kept {N:Nat}{w w':World}{nv:Value}{ns:List PN}(h:CapsAt w nv N)(hN:NodesAt w nv ns)(hl:N=ns.length)(hb:Below w.heap.size w w'):CapsAt w' nv N:=by
 intro b off n c e i hi a m d hc;obtain⟨-,a',c',e',h2⟩:=hN;rw[e] at e';injection e' with e1 e2 e3;rcases h2 with h2|⟨b',off',e4,h2⟩
 ·rw[hl,h2] at hi;exact absurd hi (Nat.not_lt_zero _)
 ·rw[<-e1] at e4
  cases e4;obtain⟨kv,g0,g1,-⟩:=h2 i _ (List.getElem?_eq_getElem (by omega));refine h b off n c e i hi a m d ?_;rw[<-(bcell hb).1 _ _ (zac g0)];exact hc
theorem NdV.later {w W:World}{B n c t:Nat}{a:Option Addr}{l:List Int}{x:Int}{W0:World}(h:NdV w B (.slice a n c) l W0)(hb:Below w.heap.size w W)(ht:t≠0)(hx:l[t]?=some x):∃b off,a=some ⟨b,off,none⟩/\W.cell? ⟨b,off+t,none⟩=some (.int .i64 x):=by
 rcases h with h|⟨X,y,h1,h2,h3,h4⟩
 ·exact NdV.cell (B:=B) (.inl h) hb hx
 ·subst h2
  have:=(List.getElem?_eq_some_iff.1 hx).1;simp at this;omega
theorem zgn {rs:List PR}{ns:List PN}{k:Nat}{n:PN}(hO:FlowOk rs ns)(hn:ns[k]?=some n):(needN rs (lfp rs ns) n).length<=60/\(needW rs ns (lfp rs ns) k).length=(needN rs (lfp rs ns) n).length /\
  ∀(t:Nat) (x:Int),(needN rs (lfp rs ns) n)[t]?=some x->∃i:Nat,x=(i:Int)/\i<ns.length/\(needW rs ns (lfp rs ns) k)[t]?=some i:=by
 have hmem:=List.mem_of_getElem? hn;have hkl:=hO.kl n hmem;refine⟨?_,by rw[zc8 hn,List.length_map],fun t x hx=>?_⟩
 ·unfold needN
  split
  ·simp
  ·split
   ·have:∀(ks:List Int),(seqNd (lfp rs ns) ks).length<=ks.length:=by
     intro ks
     induction ks with
     |nil=>exact Nat.le_refl _
     |cons y r ih=>unfold seqNd;split<;>simp<;>omega
    exact Nat.le_trans (this _) hkl
   ·exact hkl
 ·obtain⟨h0,h1⟩:=zhj (hO.ok n hmem) (List.mem_of_getElem? hx)
  refine⟨x.toNat,by omega,by omega,?_⟩;rw[zc8 hn,List.getElem?_map,hx];rfl
def natI (f:List Nat):List Int:=f.map fun(i:Nat)=>(i:Int)
def MkAt (N:Nat)(m:Nat->Bool)(b:Nat)(W:World):Prop:=∃cs,Bl W b 4 cs/\∀i,i<N->cs[i]?=some (.bool (m i))
theorem MkAt.put {N b i:Nat}{m m':Nat->Bool}{W:World}(h:MkAt N m b W)(hi:i<N)(h1:m' i=true)(h2:∀j,j≠i->m' j=m j):MkAt N m' b (W.setCell ⟨b,i,none⟩ (.bool true)):=by
 obtain⟨cs,g1,g2⟩:=h;refine⟨_,g1.set' _,fun j hj=>?_⟩;by_cases e:j=i
 ·subst e
  rw[h1];exact Array.getElem?_setIfInBounds_self_of_lt (Array.getElem?_eq_some_iff.1 (g2 j hj)).1
 ·rw[Array.getElem?_setIfInBounds_ne (by omega),h2 j e]
  exact g2 j hj
theorem zw1 {B b:Nat}{t:TypeId}{cs:Array Value}{W W':World}(h:Bl W b t cs)(hb:Below B W W')(hl:b<B):Bl W' b t cs:=by
 unfold Bl at h ⊢;rw[hb.block b hl];exact h
theorem VRows.keep {base n UB B:Nat}{U:Nat->List Int}{V:Nat->Value}{W W':World}(h:VRows base n UB U V W)(hv:∀i,i<n->∀g,(V i).ownBlock=some g->g<B)(hu:UB<B)(hb:Below B W W'):VRows base n UB U V W':=by
 obtain⟨⟨cs,h1,h2⟩,h3,h4⟩:=h;refine⟨⟨cs,zw1 h1 hb hu,h2⟩,fun i hi=>?_,h4⟩;obtain⟨hl,hr⟩:=h3 i hi;refine⟨hl,?_⟩;rcases hr with hr|⟨g,cap,cur,e,hbb,hg,rest⟩
 ·exact .inl hr
 ·exact .inr ⟨g,cap,cur,e,hbb,by rw[hb.block g (hv i hi g (by rw[e];rfl))];exact hg,rest⟩
theorem VRows.offT {base n UB c o:Nat}{t:TypeId}{cs:Array Value}{v:Value}{U:Nat->List Int}{V:Nat->Value}{W:World}(h:VRows base n UB U V W)(hc:Bl W c t cs)(h1:192≠t)(h2:c<base):VRows base n UB U V (W.setCell ⟨c,o,none⟩ v):=by
 obtain⟨⟨ds,g1,g2⟩,g3,g4⟩:=h;exact⟨⟨ds,g1.off (g1.ne hc h1),g2⟩,fun i hi=>zau (g3 i hi) h2 _ _,g4⟩
structure OfS (rs:List PR) (ns:List PN) (w:World) (B:Nat) (U:Nat->List Int) (V:Nat->Value) (f:List Nat) (q p m:Nat) (lf:Nat->Nat) (s:Value) (W:World):Prop where
 lo:Below w.heap.size w W
 b:w.heap.size+4<B
 z:B<=W.heap.size
 mks:MkAt ns.length (fun i=>decide (i ∈ f.take q)) (w.heap.size+1) W
 u:VRows (w.heap.size+5) 10000 (w.heap.size+3) U V W
 v:∀i,i<10000->∀g,(V i).ownBlock=some g->g<B
 l:LfAt ns.length lf (w.heap.size+4) W
 fr:W.ownsRow B 3 1 s f.length (intsV (natI f))
 kn:Kn (needW rs ns (lfp rs ns)) (loopW ns (lfp rs ns)) ns.length U f p m lf
section
variable {rs:List PR} {ns:List PN} {w W W':World} {B:Nat} {U:Nat->List Int} {V:Nat->Value} {f:List Nat} {q p m x i:Nat} {lf lf':Nat->Nat} {s s':Value}
theorem OfS.mark (h:OfS rs ns w B U V f p p 0 lf s W)(hx:f[p]?=some x):OfS rs ns w B U V f (p+1) p 0 lf s (W.setCell ⟨w.heap.size+1,x,none⟩ (.bool true)):=by
 have hb:=h.b;obtain⟨cs,hm,-⟩:=id h.mks;have hxN:=h.kn.lt x (List.mem_of_getElem? hx);obtain⟨ds,hl,hl2⟩:=id h.l;refine⟨h.lo.setCell (p:=⟨w.heap.size+1,x,none⟩) (by show _<=w.heap.size+1;omega) _,h.b,by simpa [World.setCell] using h.z,h.mks.put hxN ?_ fun j hj=>?_,h.u.offT hm (by decide) (by omega),h.v,⟨ds,hl.off (by omega),hl2⟩,zau h.fr (by omega) _ _,h.kn⟩
 ·rw[List.take_add_one,hx];simp
 ·rw[List.take_add_one,hx]
  simp[hj]
theorem OfS.late (h:OfS rs ns w B U V f q p m lf s W)(hb:Below W.heap.size W W'):OfS rs ns w B U V f q p m lf s W':=by
 obtain⟨cs,h1,h2⟩:=id h.mks;exact⟨bl_on h.lo hb,h.b,Nat.le_trans h.z hb.size,⟨cs,h1.below hb,h2⟩,h.u.below hb,h.v,h.l.below hb,zaa h.fr hb,h.kn⟩
theorem OfS.next (h:OfS rs ns w B U V f (p+1) p (U x).length lf s W)(hx:f[p]?=some x):OfS rs ns w B U V f (p+1) (p+1) 0 lf s W:=
 ⟨h.lo,h.b,h.z,h.mks,h.u,h.v,h.l,h.fr,h.kn.round hx⟩
end
theorem zfa {P:Program}(w:World){ops:Array Oper}{rest:List Oper}{o:Oper}{a:Act}{Q:Exit->Act->World->Prop}(hgd:o.guard=none)(s x:Operand)(t:TypeId)
  (ho:o.op=.call { callee:=.builtin .append,args:=#[s,x],argTypes:=#[t,t] })
  (base:Nat) (e:TypeId) (i:TypeInfo) (z:Value) (size bytes:Nat) (ht:P.underlying t=some (.slice e)) (hi:P.info? e=some i) (hz:i.zero=some z)
  (hsize:i.size=size) (hby:i.bytes=bytes) (hzs:z.cells.size=size) (hsz:0<size) (hs:a.eval s=.slice none 0 0)
  (ka:Option Addr) (m c:Nat) (news:List Value) (hx:a.eval x=.slice ka m c) (hl:news.length=m*size) (ha:m=0∨∃b off,ka=some ⟨b,off,none⟩/\∀j u,news[j]?=some u->w.cell? ⟨b,off+j,none⟩=some u) (h1:∀u ∈ news,u.oneCell'=true)
  (h63:m<=maxLen) (hbytes:m*bytes<=140737488355328) (hbase:base<=w.heap.size)
  (h:∀a' c' w',w'.ownsRow base e size (.slice a' m c') m news->w.grownBy w' none->wpList P ops Q rest (a.put o.dst (.slice a' m c')) w'):wpList P ops Q (o::rest) a w:=by
 refine wpList_plain hgd fun K hK=>?_
 obtain⟨v',w',hr,h2,h3,-⟩:=zd6 (P:=P) w base t o.type e i z size bytes ht hi hz hsize hby hzs hsz ka m c news hl ha h1 h63 hbytes hbase;obtain⟨a',c',rfl⟩:∃a' c',v'=.slice a' m c':=by
  rcases h2.2 with⟨e,e0⟩|⟨g,cap,cur,e,-⟩
  ·exact⟨none,0,by rw[e,e0]⟩
  ·exact⟨_,_,e⟩
 unfold Oper.wp execOp;simp only[ho,resolve,invoke,builtin,Sem.run_bind,Sem.run_pure,Result.andThen_ok,List.map_toArray,List.map_cons,List.map_nil,hs,hx,hr];exact hK _ _ (h a' c' w' h2 h3)
theorem RowIs.mono {r:List Int}{w w1 w':World}{e:Ending}(h:RowIs r w1 e w')(hb:Below w.heap.size w w1):RowIs r w e w':=by
 obtain⟨v,h1,h2,h3⟩:=h;exact⟨v,h1,zax h2 hb.size,bl_on hb h3⟩
def z3w (l:List Int)(w:World)(e:Ending)(w':World):Prop:=∃a c,e=.returned (.slice a l.length c)/\w'.ownsRow w.heap.size 3 1 (.slice a l.length c) l.length (intsV l)/\Below w.heap.size w w'
theorem zpg (rv nv:Value)(rs:List PR)(ns:List PN)(i:Nat)(n:PN)(w:World)(hR:RulesIn w rv rs)(hN:NodesAt w nv ns)(hC:CapsAt w nv ns.length)(hO:FlowOk rs ns)(hn:ns[i]?=some n) :
  Calls Tryz.prog 32 #[.agg #[rv,nv],.int .i64 (i:Int)] w (z3w (needN rs (lfp rs ns) n) w):=by
 have hs:=hO.nl;obtain⟨ii,hii,hz0,hz1,hz2⟩:=info_parts za3;have hil:=(List.getElem?_eq_some_iff.1 hn).1;have hmem:=List.mem_of_getElem? hn;obtain⟨hq60,-,-⟩:=zgn hO hn;obtain⟨-,na,nc,rfl,hna⟩:=id hN;rcases hna with h0|⟨nb,no,rfl,hca⟩
 ·rw[h0] at hil;exact absurd hil (Nat.not_lt_zero _)
 obtain⟨kv,c0,c1,c2,c3,c4,c5,c6,hki,-⟩:=hca i n hn;have lr:=zac c0;obtain⟨ka,kc,rfl,-⟩:=id hki;have hkc:=hC nb no _ _ rfl i hil _ _ _ c1;obtain⟨-,ra,rc,rfl,-⟩:=id hR;have htwo:=Lib.hid (zat w (.cells #[.slice ra rs.length rc,.slice (some ⟨nb,no,none⟩) ns.length nc] 25) (.cells #[.int .i64 n.op,.slice ka n.kids.length kc,.int .i64 n.rule,.int .u64 n.s0,.int .u64 n.s1,.int .u64 n.s2,.int .u64 n.s3] 51));have HN:=Lib.hid (fun(W:World) (hb:Below w.heap.size w W) (v:Value) (hF:n.op=3->FactsAt W v (lfp rs ns))=>zjm (.slice ra rs.length rc) (.slice (some ⟨nb,no,none⟩) ns.length nc) v rs ns.length (lfp rs ns) n ka kc W (hR.kept hb (Nat.le_refl _)) (hki.kept hb (Nat.le_refl _)) hkc (by have:=hO.kl n hmem;omega) hF (hO.ok n hmem));have HF:=Lib.hid (zwh _ _ rs ns _ (hR.kept htwo.out (Nat.le_refl _)) (hN.kept htwo.out (Nat.le_refl _)) hO);have i0:¬(i:Int)<0:=by omega
 have i1:¬(ns.length:Int)<=(i:Int):=by omega
 have i2:(i:Int)<(ns.length:Int):=by omega
 unfold NewF at HF;rw[za7] at HF;unfold NeedsIs at HN;generalize lfp rs ns=L at *;generalize needN rs L n=q at *;have HG:=Lib.hid (show Bl ((w.alloc (.cells #[.slice ra rs.length rc,.slice (some ⟨nb,no,none⟩) ns.length nc] 25)).alloc (.cells #[.int .i64 n.op,.slice ka n.kids.length kc,.int .i64 n.rule,.int .u64 n.s0,.int .u64 n.s1,.int .u64 n.s2,.int .u64 n.s3] 51)) w.heap.size 25 #[.slice ra rs.length rc,.slice (some ⟨nb,no,none⟩) ns.length nc] from Bl.past (Bl.new w _ _));have HM:=Lib.hid (show Bl ((w.alloc (.cells #[.slice ra rs.length rc,.slice (some ⟨nb,no,none⟩) ns.length nc] 25)).alloc (.cells #[.int .i64 n.op,.slice ka n.kids.length kc,.int .i64 n.rule,.int .u64 n.s0,.int .u64 n.s1,.int .u64 n.s2,.int .u64 n.s3] 51)) (w.heap.size+1) 51 #[.int .i64 n.op,.slice ka n.kids.length kc,.int .i64 n.rule,.int .u64 n.s0,.int .u64 n.s1,.int .u64 n.s2,.int .u64 n.s3] from Bl.new' (by simp));clear hR hN hC hO hn hca hki hmem;by_cases e3:n.op=3
 ·rw[e3] at c0 htwo HN HF HG HM
  clear e3;go_enter Tryz.func32,Tryz.ntmps32
  go_wp2_with (first
   |(go_at_call 45;(with_reducible refine HF.out.mono ?_);rintro e w2 ⟨fa,fc,rfl,hf,hb⟩;have HB2:=Lib.hid (bl_on htwo.out hb);have HC2:=Lib.hid (HN.out w2 HB2.out _ (fun _=>hf));have g0:w2.cell? ⟨w.heap.size,0,none⟩=some (.slice ra rs.length rc):=(HG.out.below hb).cell (o:=0) rfl;have g1:w2.cell? ⟨w.heap.size,1,none⟩=some (.slice (some ⟨nb,no,none⟩) ns.length nc):=(HG.out.below hb).cell (o:=1) rfl;have lg:=(HG.out.below hb).lt;have hm2:=HM.out.below hb;have m0:=hm2.cell (o:=0) rfl;have m1:=hm2.cell (o:=1) rfl;have m2:=hm2.cell (o:=2) rfl;have m3:=hm2.cell (o:=3) rfl;have m4:=hm2.cell (o:=4) rfl;have m5:=hm2.cell (o:=5) rfl;have m6:=hm2.cell (o:=6) rfl;have lm:=hm2.lt;clear hf hb hm2)
   |(go_at_call 61;(with_reducible refine HC2.out.mono ?_);rintro e w3 ⟨a,c,rfl,hi,hb,-⟩;have HB3:=Lib.hid (bl_on HB2.out hb);have HI3:=Lib.hid hi.src;clear hi hb)
   |(at_builtin;(refine zfa _ rfl _ _ 29 rfl w.heap.size 3 ii (.int .i64 0) 1 8 Tryz.underlying29 hii hz0 hz1 hz2 rfl (by decide) rfl a q.length c (intsV q) rfl (by unfold intsV;rw[List.length_map,Nat.mul_one]) HI3.out (ints_oneCell .i64 q) (by unfold maxLen;omega) (by omega) (HB3.out.size) ?_);intro a5 c5 w5 hown5 hgrow5;have HB5:=Lib.hid (bl_on HB3.out (zdc hgrow5));have HO5:=Lib.hid hown5;clear hown5 hgrow5))
  go_ret;exact⟨a5,c5,rfl,HO5.out,HB5.out⟩
 ·have q3:(n.op == 3)=false:=zaj e3
  have HC2:=Lib.hid (HN.out _ htwo.out (.slice none 0 0) (fun h=>absurd h e3));go_enter Tryz.func32,Tryz.ntmps32
  go_wp2_with (first
   |(go_at_call 61;(with_reducible refine HC2.out.mono ?_);rintro e w3 ⟨a,c,rfl,hi,hb,-⟩;have HB3:=Lib.hid (bl_on htwo.out hb);have HI3:=Lib.hid hi.src;clear hi hb)
   |(at_builtin;(refine zfa _ rfl _ _ 29 rfl w.heap.size 3 ii (.int .i64 0) 1 8 Tryz.underlying29 hii hz0 hz1 hz2 rfl (by decide) rfl a q.length c (intsV q) rfl (by unfold intsV;rw[List.length_map,Nat.mul_one]) HI3.out (ints_oneCell .i64 q) (by unfold maxLen;omega) (by omega) (HB3.out.size) ?_);intro a5 c5 w5 hown5 hgrow5;have HB5:=Lib.hid (bl_on HB3.out (zdc hgrow5));have HO5:=Lib.hid hown5;clear hown5 hgrow5))
  go_ret;exact⟨a5,c5,rfl,HO5.out,HB5.out⟩
end Go.Proofs.YthhppmehhdlmnaaGreatDoor
