/- Layer 13: the order in which always the least vertex is taken whose calls are taken. Layer 13: the order as the program makes it: callers, how many calls are mi -/
import Derived.Test.YthhppmehhdlmnaaGreatDoorPzFM
import Derived.Test.YthhppmehhdlmnaaGreatDoorPzFU
import Derived.Test.YthhppmehhdlmnaaGreatDoorPzWD
import Derived.Test.YthhppmehhdlmnaaGreatDoorPzLE
import Derived.Test.YthhppmehhdlmnaaGreatDoorPzLA
import Derived.Test.YthhppmehhdlmnaaGreatDoorPzLB
import Derived.Test.YthhppmehhdlmnaaGreatDoorPzLC
set_option maxRecDepth 100000
set_option maxHeartbeats 16000000
namespace Go.Proofs.YthhppmehhdlmnaaGreatDoor
section
variable (calls:Nat->List Nat) (n:Nat)
def RdyG (out:List Nat)(x:Nat):Prop:=x<n/\x ∉ out/\∀c,c ∈ calls x->c ∈ out
def OrdG (out:List Nat):Prop:=∀i x,out[i]?=some x->RdyG calls n (out.take i) x/\∀y,RdyG calls n (out.take i) y->x<=y
variable {calls n}
theorem OrdG.nil:OrdG calls n []:=fun i x h=>by simp at h
theorem OrdG.snoc {out:List Nat}{x:Nat}(h:OrdG calls n out)(hx:RdyG calls n out x)(hm:∀y,RdyG calls n out y->x<=y):OrdG calls n (out++[x]):=fun i z hz=>by
 rcases Nat.lt_or_ge i out.length with g|g
 ·rw[List.getElem?_append_left g] at hz
  rw[List.take_append_of_le_length (Nat.le_of_lt g)];exact h i z hz
 ·have hl:=(List.getElem?_eq_some_iff.1 hz).1
  rw[List.length_append,List.length_singleton] at hl;obtain rfl:i=out.length:=by omega
  rw[List.getElem?_append_right g,Nat.sub_self] at hz;have hz:x=z:=by simpa using hz
  subst hz;rw[List.take_append_of_le_length (Nat.le_refl _),List.take_length];exact⟨hx,hm⟩
theorem OrdG.take {out:List Nat}(h:OrdG calls n out)(k:Nat):OrdG calls n (out.take k):=fun i x hx=>by
 have hik:i<k:=by
  have:=(List.getElem?_eq_some_iff.1 hx).1;rw[List.length_take] at this;omega
 rw[List.getElem?_take_of_lt hik] at hx;rw[List.take_take,Nat.min_eq_left (Nat.le_of_lt hik)];exact h i x hx
theorem OrdG.alike:∀ {k:Nat} {a b:List Nat},OrdG calls n a->OrdG calls n b->k<=a.length->k<=b.length->a.take k=b.take k
 |0,_,_,_,_,_,_=>rfl
 |k+1,a,b,ha,hb,h1,h2=>by
  have ih:=OrdG.alike ha hb (Nat.le_of_succ_le h1) (Nat.le_of_succ_le h2);obtain⟨x,hx⟩:∃x,a[k]?=some x:=⟨_,List.getElem?_eq_getElem h1⟩;obtain⟨y,hy⟩:∃y,b[k]?=some y:=⟨_,List.getElem?_eq_getElem h2⟩;obtain⟨a1,a2⟩:=ha k x hx;obtain⟨b1,b2⟩:=hb k y hy;rw[ih] at a1 a2;have:x=y:=Nat.le_antisymm (a2 y b1) (b2 x a1);subst this;rw[List.take_add_one,List.take_add_one,ih,hx,hy]
theorem OrdG.unique {a b:List Nat}(ha:OrdG calls n a)(hb:OrdG calls n b)(hl:a.length=b.length):a=b:=by
 have:=OrdG.alike ha hb (Nat.le_refl _) (Nat.le_of_eq hl);rw[List.take_length,hl,List.take_length] at this;exact this
theorem OrdG.nodup {out:List Nat}(h:OrdG calls n out){i j x:Nat}(hi:out[i]?=some x)(hj:out[j]?=some x):i=j:=by
 rcases Nat.lt_trichotomy i j with g|g|g
 ·exact absurd (List.mem_of_getElem? (show(out.take j)[i]?=some x by rw[List.getElem?_take_of_lt g];exact hi)) (h j x hj).1.2.1
 ·exact g
 ·exact absurd (List.mem_of_getElem? (show(out.take i)[j]?=some x by rw[List.getElem?_take_of_lt g];exact hj)) (h i x hi).1.2.1
theorem OrdG.wf {out:List Nat}(h:OrdG calls n out):∀(k i x:Nat),i<=k->out[i]?=some x->WfG calls (fun _=>false) x
 |k,i,x,hk,hi=>by
  rw[WfG.iff];refine⟨fun c hc=>?_,rfl⟩;have hm:=(h i x hi).1.2.2 c hc;obtain⟨t,ht,e⟩:=List.mem_iff_getElem.1 hm;have hti:t<i:=by rw[List.length_take] at ht;omega
  have ht':out[t]?=some c:=by
   rw[<-List.getElem?_take_of_lt hti,List.getElem?_eq_getElem ht,e]
  match k with
  |0=>omega
  |k+1=>exact OrdG.wf h k t c (by omega) ht'
theorem OrdG.free {out:List Nat}(h:OrdG calls n out){x:Nat}(hx:x ∈ out):¬RchG calls x x:=by
 obtain⟨i,hi,e⟩:=List.mem_iff_getElem.1 hx;exact(h.wf i i x (Nat.le_refl _) (by rw[List.getElem?_eq_getElem hi,e])).no_cycle
end
section
variable (cs:Nat->List Nat) (N:Nat)
def clrL (k c:Nat):List Nat:=(List.range k).filter fun r=>decide (c ∈ cs r)
def msN (out:List Nat)(x:Nat):Nat:=((cs x).filter fun c=>decide (c ∉ out)).length
variable {cs N}
theorem zf8 {k c r:Nat}:r ∈ clrL cs k c↔r<k/\c ∈ cs r:=by
 unfold clrL;rw[List.mem_filter,List.mem_range,decide_eq_true_iff]
theorem zjt (k c:Nat):(clrL cs k c).Nodup:=List.Nodup.sublist List.filter_sublist List.nodup_range
theorem z06 {k c:Nat}(h:c ∈ cs k):clrL cs (k+1) c=clrL cs k c++[k]:=by
 unfold clrL;rw[List.range_succ,List.filter_append,List.filter_cons_of_pos (by rw[decide_eq_true h])];rfl
theorem z5w {k c:Nat}(h:c ∉ cs k):clrL cs (k+1) c=clrL cs k c:=by
 unfold clrL;rw[List.range_succ,List.filter_append,List.filter_cons_of_neg (by rw[decide_eq_false h];decide)];simp
theorem zwp (k c:Nat):(clrL cs k c).length<=k:=by
 unfold clrL;have:=List.length_filter_le (fun r=>decide (c ∈ cs r)) (List.range k);rwa [List.length_range] at this
theorem z5x (x:Nat):msN cs [] x=(cs x).length:=by
 unfold msN;rw[List.filter_eq_self.2 (fun a _=>decide_eq_true (by simp))]
theorem z07 {out:List Nat}{x:Nat}:msN cs out x=0↔∀c,c ∈ cs x->c ∈ out:=by
 unfold msN;rw[List.length_eq_zero_iff,List.filter_eq_nil_iff];constructor
 ·intro h c hc
  have:=h c hc;rw[decide_eq_true_iff] at this;exact Classical.byContradiction this
 ·intro h c hc
  rw[decide_eq_true_iff];exact fun g=>g (h c hc)
theorem zig:∀ {l out:List Nat} {r:Nat},l.Nodup->r ∉ out->(l.filter fun c=>decide (c ∉ out)).length=(l.filter fun c=>decide (c ∉ out++[r])).length+(if r ∈ l then 1 else 0)
 | [],_,_,_,_=>by simp
 |a::l,out,r,hn,hr=>by
  obtain⟨h1,h2⟩:=List.nodup_cons.1 hn;have ih:=zig (out:=out) (r:=r) h2 hr;by_cases ha:a=r
  ·subst ha
   rw[List.filter_cons_of_pos (by rw[decide_eq_true hr]),List.filter_cons_of_neg (by rw[decide_eq_false (by simp)];decide),if_pos (List.mem_cons_self ..),List.length_cons,ih,if_neg h1]
  ·have hm:r ∈ a::l↔r ∈ l:=by rw[List.mem_cons];exact⟨fun h=>h.resolve_left (Ne.symm ha),.inr⟩
   by_cases hao:a ∈ out
   ·rw[List.filter_cons_of_neg (by rw[decide_eq_false (by simp[hao])];decide),List.filter_cons_of_neg (by rw[decide_eq_false (by simp[hao])];decide),ih]
    simp only[hm]
   ·rw[List.filter_cons_of_pos (by rw[decide_eq_true hao]),List.filter_cons_of_pos (by rw[decide_eq_true (by simp[hao,ha])]),List.length_cons,List.length_cons,ih]
    simp only[hm];omega
theorem zri {out:List Nat}{x r:Nat}(hn:(cs x).Nodup)(hr:r ∉ out):msN cs out x=msN cs (out++[r]) x+(if r ∈ cs x then 1 else 0):=zig hn hr
structure QdS (out q:List Nat):Prop where
 ord:OrdG cs N out
 nd:q.Nodup
 mem:∀x,x ∈ q↔RdyG cs N out x
structure QiS (out q:List Nat) (r i:Nat):Prop where
 ord:OrdG cs N out
 rdy:RdyG cs N out r
 low:∀y,RdyG cs N out y->r<=y
 nd:q.Nodup
 mem:∀x,x ∈ q↔(RdyG cs N out x/\x≠r)∨(x ∈ (clrL cs N r).take i/\msN cs (out++[r]) x=0)
theorem OrdG.sub {out:List Nat}(h:OrdG cs N out){x c:Nat}(hx:x ∈ out)(hc:c ∈ cs x):c ∈ out:=by
 obtain⟨i,hi,e⟩:=List.mem_iff_getElem.1 hx;exact(List.take_sublist i out).subset ((h i x (by rw[List.getElem?_eq_getElem hi,e])).1.2.2 c hc)
theorem OrdG.lt {out:List Nat}(h:OrdG cs N out){x:Nat}(hx:x ∈ out):x<N:=by
 obtain⟨i,hi,e⟩:=List.mem_iff_getElem.1 hx;exact(h i x (by rw[List.getElem?_eq_getElem hi,e])).1.1
theorem OrdG.le {out:List Nat}(h:OrdG cs N out):out.length<=N:=zce _ _ (zfl fun _ _ _=>h.nodup) fun _ hx=>h.lt hx
theorem QdS.pop {out q q':List Nat}{r:Nat}(h:QdS (cs:=cs) (N:=N) out q)(hp:(q'++[r]).Perm q)(hl:∀y,y ∈ q'->r<=y):QiS (cs:=cs) (N:=N) out q' r 0:=by
 have hrq:r ∈ q:=hp.mem_iff.1 (List.mem_append_right _ (List.mem_singleton.2 rfl));have hnd:=hp.nodup_iff.2 h.nd;obtain⟨n1,-,n3⟩:=List.nodup_append.1 hnd;refine⟨h.ord,(h.mem r).1 hrq,fun y hy=>?_,n1,fun x=>?_⟩
 ·rcases List.mem_append.1 (hp.mem_iff.2 ((h.mem y).2 hy)) with g|g
  ·exact hl y g
  ·rw[List.mem_singleton.1 g];exact Nat.le_refl _
 ·rw[List.take_zero]
  constructor
  ·intro hx
   exact .inl ⟨(h.mem x).1 (hp.mem_iff.1 (List.mem_append_left _ hx)),fun e=>n3 x hx r (List.mem_singleton.2 rfl) e⟩
  ·rintro(⟨hx,hne⟩|⟨hx,-⟩)
   ·rcases List.mem_append.1 (hp.mem_iff.2 ((h.mem x).2 hx)) with g|g
    ·exact g
    ·exact absurd (List.mem_singleton.1 g) hne
   ·cases hx
theorem QiS.told {out q:List Nat}{r i x:Nat}(h:QiS (cs:=cs) (N:=N) out q r i)(hx:(clrL cs N r)[i]?=some x)(hm:msN cs (out++[r]) x≠0):QiS (cs:=cs) (N:=N) out q r (i+1):=by
 refine⟨h.ord,h.rdy,h.low,h.nd,fun y=>?_⟩;rw[h.mem,List.take_add_one,hx,List.mem_append];constructor
 ·exact fun g=>g.imp id fun g=>⟨.inl g.1,g.2⟩
 ·rintro(g|⟨g|g,e⟩)
  ·exact .inl g
  ·exact .inr ⟨g,e⟩
  ·obtain rfl:y=x:=by simpa using g
   exact absurd e hm
theorem QiS.add {out q q':List Nat}{r i x:Nat}(h:QiS (cs:=cs) (N:=N) out q r i)(hx:(clrL cs N r)[i]?=some x)(hm:msN cs (out++[r]) x=0)(hp:q'.Perm (q++[x])):QiS (cs:=cs) (N:=N) out q' r (i+1):=by
 have hxm:=zf8.1 (List.mem_of_getElem? hx);refine⟨h.ord,h.rdy,h.low,hp.nodup_iff.2 (List.nodup_append.2 ⟨h.nd,List.nodup_cons.2 ⟨List.not_mem_nil,List.nodup_nil⟩,fun a ha b hb e=>?_⟩),fun y=>?_⟩
 ·rw[List.mem_singleton.1 hb] at e
  subst e;rcases(h.mem a).1 ha with⟨g,-⟩|⟨g,-⟩
  ·exact h.rdy.2.1 (g.2.2 r hxm.2)
  ·obtain⟨t,ht,et⟩:=List.mem_iff_getElem.1 g
   rw[List.length_take] at ht;have h2:(clrL cs N r)[t]?=some a:=by rw[<-List.getElem?_take_of_lt (show t<i by omega),List.getElem?_eq_getElem (by rw[List.length_take];omega),et]
   have:=zjs (zjt N r) h2 hx;omega
 ·rw[hp.mem_iff,List.mem_append,h.mem,List.take_add_one,hx,List.mem_append]
  constructor
  ·rintro((g|⟨g,e⟩)|g)
   ·exact .inl g
   ·exact .inr ⟨.inl g,e⟩
   ·have:y=x:=List.mem_singleton.1 g
    subst this;exact .inr ⟨.inr (by simp),hm⟩
  ·rintro(g|⟨g|g,e⟩)
   ·exact .inl (.inl g)
   ·exact .inl (.inr ⟨g,e⟩)
   ·obtain rfl:y=x:=by simpa using g
    exact .inr (List.mem_singleton.2 rfl)
theorem QiS.next {out q:List Nat}{r i:Nat}(h:QiS (cs:=cs) (N:=N) out q r i)(hi:(clrL cs N r).length<=i):QdS (cs:=cs) (N:=N) (out++[r]) q:=by
 refine⟨h.ord.snoc h.rdy h.low,h.nd,fun x=>?_⟩;rw[h.mem,List.take_of_length_le hi,zf8,z07];constructor
 ·rintro(⟨g,hne⟩|⟨⟨g1,g2⟩,g3⟩)
  ·exact⟨g.1,fun hm=>by
    rcases List.mem_append.1 hm with e|e
    ·exact g.2.1 e
    ·exact hne (List.mem_singleton.1 e),fun c hc=>List.mem_append_left _ (g.2.2 c hc)⟩
  ·refine⟨g1,fun hm=>?_,g3⟩
   rcases List.mem_append.1 hm with e|e
   ·exact h.rdy.2.1 (h.ord.sub e g2)
   ·rw[List.mem_singleton.1 e] at g2
    exact h.rdy.2.1 (h.rdy.2.2 r g2)
 ·rintro⟨g1,g2,g3⟩
  by_cases hr:r ∈ cs x
  ·exact .inr ⟨⟨g1,hr⟩,g3⟩
  ·refine .inl ⟨⟨g1,fun e=>g2 (List.mem_append_left _ e),fun c hc=>?_⟩,fun e=>g2 (by rw[e];exact List.mem_append_right _ (List.mem_singleton.2 rfl))⟩
   rcases List.mem_append.1 (g3 c hc) with e|e
   ·exact e
   ·rw[List.mem_singleton.1 e] at hc;exact absurd hc hr
theorem OrdG.ends {a b:List Nat}(ha:OrdG cs N a)(hb:OrdG cs N b)(hal:a.length=N)(hno:∀x,¬RdyG cs N b x):b.length=N:=by
 have hbl:=hb.le;rcases Nat.lt_or_ge b.length N with g|g
 ·obtain⟨x,hx⟩:∃x,a[b.length]?=some x:=⟨_,List.getElem?_eq_getElem (by omega)⟩
  have h1:=(ha b.length x hx).1;have h2:=OrdG.alike ha hb (k:=b.length) (by omega) (Nat.le_refl _);rw[List.take_length] at h2;rw[h2] at h1;exact absurd h1 (hno x)
 ·omega
end
section
open Go.RowKit
structure OrS (N:Nat) (w:World) (GB UB MB QB:Nat) (rv nv:Value) (U:Nat->List Int) (V:Nat->Value) (ms:Nat->Nat) (q:List Int) (vq vx:Value) (xs:List Nat) (W:World):Prop where
 lo:Below w.heap.size w W
 gb:Bl W GB 25 #[rv,nv]
 ur:URows w.heap.size N UB U V W
 lf:LfAt N ms MB W
 qb:Bl W QB 66 #[vq]
 qr:W.ownsRow w.heap.size 3 1 vq q.length (intsV q)
 xr:W.ownsRow w.heap.size 3 1 vx xs.length (natsV xs)
 a1:∀i,i<N->∀g,(V i).ownBlock=some g->vq.ownBlock≠some g/\g≠MB/\vx.ownBlock≠some g
 a2:∀g,vq.ownBlock=some g->g≠MB/\vx.ownBlock≠some g
 a3:vx.ownBlock≠some MB
 l1:w.heap.size<=GB
 l2:w.heap.size<=UB
 l3:w.heap.size<=MB
 l4:w.heap.size<=QB
section
variable {N:Nat} {w W W1 W':World} {GB UB MB QB:Nat} {rv nv:Value} {U:Nat->List Int} {V:Nat->Value} {ms ms':Nat->Nat} {q q':List Int} {vq vx v5:Value} {xs:List Nat}
theorem OrS.below (h:OrS N w GB UB MB QB rv nv U V ms q vq vx xs W)(hb:Below W.heap.size W W'):OrS N w GB UB MB QB rv nv U V ms q vq vx xs W':=
 ⟨h.lo.trans (hb.mono h.lo.size),h.gb.below hb,h.ur.below hb,h.lf.below hb,h.qb.below hb,zaa h.qr hb,zaa h.xr hb,h.a1,h.a2,h.a3,h.l1,h.l2,h.l3,h.l4⟩
theorem OrS.drop (h:OrS N w GB UB MB QB rv nv U V ms q vq vx xs W):OrS N w GB UB MB QB rv nv U V ms q vq (.slice none 0 0) [] W:=
 ⟨h.lo,h.gb,h.ur,h.lf,h.qb,h.qr,World.ownsRow_nil _ _ _ _,fun i hi g e=>⟨(h.a1 i hi g e).1,(h.a1 i hi g e).2.1,fun e=>(by cases e)⟩,fun g e=>⟨(h.a2 g e).1,fun e=>(by cases e)⟩,fun e=>(by cases e),h.l1,h.l2,h.l3,h.l4⟩
theorem OrS.new {u:Value}{l:List Nat}(h:OrS N w GB UB MB QB rv nv U V ms q vq vx xs W)(hb:Below W.heap.size W W')(hu:W'.ownsRow W.heap.size 3 1 u l.length (natsV l)):OrS N w GB UB MB QB rv nv U V ms q vq u l W':=by
 have h1:=h.below hb;refine⟨h1.lo,h1.gb,h1.ur,h1.lf,h1.qb,h1.qr,zax hu h.lo.size,fun i hi g e=>⟨(h.a1 i hi g e).1,(h.a1 i hi g e).2.1,fun e2=>?_⟩,fun g e=>⟨(h.a2 g e).1,fun e2=>?_⟩,fun e2=>?_,h.l1,h.l2,h.l3,h.l4⟩
 ·have:=(hu.lt g e2).1;have:=((h.ur.row i hi).lt g e).2;omega
 ·have:=(hu.lt g e2).1;have:=(h.qr.lt g e).2;omega
 ·have:=(hu.lt _ e2).1;have:=h.lf.lt;omega
theorem OrS.put {x y:Nat}(h:OrS N w GB UB MB QB rv nv U V ms q vq vx xs W)(hx:x<N)(h1:ms' x=y)(h2:∀j,j≠x->ms' j=ms j):OrS N w GB UB MB QB rv nv U V ms' q vq vx xs (W.setCell ⟨MB,x,none⟩ (.int .i64 (y:Int))):=by
 obtain⟨cm,hm,-⟩:=id h.lf;obtain⟨⟨cu,hu1,hu2⟩,hu3,hu4⟩:=h.ur;refine⟨h.lo.setCell (p:=⟨MB,x,none⟩) h.l3 _,h.gb.other (h.gb.ne hm (by decide)) _,⟨⟨cu,hu1.other (hu1.ne hm (by decide)) _,hu2⟩,fun i hi=>ownsRow_setCell_other (hu3 i hi) (a:=⟨MB,x,none⟩) (fun e=>(h.a1 i hi MB e).2.1 rfl) _,hu4⟩,h.lf.put hx h1 h2,h.qb.other (h.qb.ne hm (by decide)) _,ownsRow_setCell_other h.qr (a:=⟨MB,x,none⟩) (fun e=>(h.a2 MB e).1 rfl) _,ownsRow_setCell_other h.xr (a:=⟨MB,x,none⟩) h.a3 _,h.a1,h.a2,h.a3,h.l1,h.l2,h.l3,h.l4⟩
theorem zwv {base n:Nat}{e:TypeId}{size:Nat}{v:Value}{ys:List Value}(hv:W.ownsRow base e size v n ys)(hk:∀g,v.ownBlock=some g->W'.heap[g]?=W.heap[g]?):W'.ownsRow base e size v n ys:=by
 refine⟨hv.1,?_⟩;rcases hv.2 with h1|⟨g,cap,cur,e1,e2,e3,e4⟩
 ·exact .inl h1
 ·subst e1
  exact .inr ⟨g,cap,cur,rfl,e2,(hk g rfl).trans e3,e4⟩
theorem bl_at {b:Nat}{t:TypeId}{cs:Array Value}(hB:Bl W b t cs)(hk:W'.heap[b]?=W.heap[b]?):Bl W' b t cs:=by
 unfold Bl at hB ⊢;rw[hk];exact hB
theorem OrS.que (h:OrS N w GB UB MB QB rv nv U V ms q vq vx xs W)(hq:LQAt w.heap.size QB q' W')(hk:QK QB W W'):∃a c,OrS N w GB UB MB QB rv nv U V ms q' (.slice a q'.length c) vx xs W':=by
 obtain⟨⟨k1,k2,k3,k4⟩,⟨v',hv',hn⟩,hb⟩:=hk vq h.qb;obtain⟨a,c,hB,hO⟩:=hq;have e:v'=.slice a q'.length c:=by
  unfold Bl at hv' hB;rw[hv'] at hB;injection hB with h;injection h with h;injection h with h;injection h
 subst e;obtain⟨cm,hm,hm2⟩:=id h.lf;obtain⟨⟨cu,hu1,hu2⟩,hu3,hu4⟩:=h.ur;have kb:∀ {b:Nat} {t:TypeId} {cs:Array Value},Bl W b t cs->t≠66->vq.ownBlock≠some b->Bl W' b t cs:=fun hB ht hv=>bl_at hB (hb _ hB.lt (hB.ne h.qb ht) hv)
 have kr:∀ {u:Value} {n:Nat} {ys:List Value},W.ownsRow w.heap.size 3 1 u n ys->(∀g,u.ownBlock=some g->vq.ownBlock≠some g)->W'.ownsRow w.heap.size 3 1 u n ys:=fun hu hne=>zwv hu fun g e=>hb g (hu.lt g e).2 (fun e2=>by
  subst e2;exact za9 hu ⟨_,_,h.qb⟩ (by decide) e) (hne g e)
 have nt:∀ {b:Nat} {t:TypeId} {cs:Array Value},Bl W b t cs->t≠3->vq.ownBlock≠some b:=fun hB ht e=>za9 h.qr ⟨_,_,hB⟩ (Ne.symm ht) e
 refine⟨a,c,?_,kb h.gb (by decide) (nt h.gb (by decide)),⟨⟨cu,kb hu1 (by decide) (nt hu1 (by decide)),hu2⟩,fun i hi=>kr (hu3 i hi) fun g e=>(h.a1 i hi g e).1,hu4⟩,⟨cm,kb hm (by decide) (fun e=>(h.a2 MB e).1 rfl),hm2⟩,hB,hO,kr h.xr fun g e e2=>(h.a2 g e2).2 e,fun i hi g e=>⟨?_,(h.a1 i hi g e).2⟩,fun g e=>?_,h.a3,h.l1,h.l2,h.l3,h.l4⟩
 ·refine⟨k1.trans h.lo.os,k2.trans h.lo.tape,k3.trans h.lo.output,Nat.le_trans h.lo.size k4,fun k hk=>?_⟩
  have h4:=h.l4;refine(hb k (Nat.lt_of_lt_of_le hk h.lo.size) (by omega) fun e=>?_).trans (h.lo.block k hk);have:=(h.qr.lt k e).1;omega
 ·rcases hn with e2|e2
  ·rw[e2];exact(h.a1 i hi g e).1
  ·intro e3
   have:=e2 g e3;have:=((hu3 i hi).lt g e).2;omega
 ·rcases hn with e2|e2
  ·rw[e2] at e;exact h.a2 g e
  ·have h5:=e2 g e
   refine⟨fun e3=>?_,fun e3=>?_⟩
   ·have:=h.lf.lt;omega
   ·have:=(h.xr.lt g e3).2;omega
theorem OrS.clr {k:Nat}{x:Int}(h:OrS N w GB UB MB QB rv nv U V ms q vq vx xs W)(hk:k<N)(hb:Below W.heap.size W W1)(ho:W'.ownsRow w.heap.size 3 1 v5 ((U k).length+1) (intsV (U k)++[.int .i64 x]))(hg:W1.grownBy W' (V k).ownBlock)(hat:v5.ownBlock=(V k).ownBlock∨v5.ownBlock=some W1.heap.size) :
  OrS N w GB UB MB QB rv nv (updU U k (U k++[x])) (updU V k v5) ms q vq vx xs (W'.setCell ⟨UB,k,none⟩ v5):=by
 have h1:=h.below hb;have hur:=h1.ur.add hk ho hg hat;obtain⟨cm,hm,hm2⟩:=id h1.lf;obtain⟨⟨cu,hu1,hu2⟩,hu3,hu4⟩:=h1.ur;have hkind:∀g,(V k).ownBlock=some g->∃c fz,W1.heap[g]?=some (.cells c 3 fz):=fun g e=>Lib.ownsRow_kind (hu3 k hk) g e
 have gr:∀ {b:Nat} {t:TypeId} {cs:Array Value},Bl W1 b t cs->t≠3->Bl W' b t cs:=fun hB ht=>hB.grown hg fun g e=>by obtain⟨c,fz,hc⟩:=hkind g e;exact⟨c,3,fz,hc,ht⟩
 have hu5:=gr hu1 (by decide);have hm5:Bl W' MB 3 cm:=bl_at hm (hg.block MB hm.lt fun e=>(h.a1 k hk MB e.symm).2.1 rfl);have kr:∀ {u:Value} {n:Nat} {ys:List Value},W1.ownsRow w.heap.size 3 1 u n ys->(∀g,(V k).ownBlock=some g->u.ownBlock≠some g)->(W'.setCell ⟨UB,k,none⟩ v5).ownsRow w.heap.size 3 1 u n ys:=fun hu hne=>by
  have hr:=zwv (W':=W') hu fun g e=>hg.block g (hu.lt g e).2 fun e2=>hne g e2.symm e
  exact ownsRow_setCell_other hr (a:=⟨UB,k,none⟩) (za9 hr ⟨_,_,hu5⟩ (by decide)) _
 have g5:=gr h1.gb (by decide);have q5:=gr h1.qb (by decide);refine⟨?_,g5.other (g5.ne hu5 (by decide)) _,hur,⟨cm,hm5.other (hm5.ne hu5 (by decide)) _,hm2⟩,q5.other (q5.ne hu5 (by decide)) _,kr h1.qr fun g e=>(h.a1 k hk g e).1,kr h1.xr fun g e=>(h.a1 k hk g e).2.2,fun i hi g e=>?_,h.a2,h.a3,h.l1,h.l2,h.l3,h.l4⟩
 ·exact(h1.lo.grown hg h1.lo.size (fun g e=>((hu3 k hk).lt g e).1)).setCell (p:=⟨UB,k,none⟩) h.l2 _
 ·unfold updU at e
  by_cases ei:i=k
  ·rw[if_pos ei] at e
   rcases hat with e2|e2
   ·rw[e2] at e;exact h.a1 k hk g e
   ·rw[e2] at e
    injection e with e;refine⟨fun e3=>?_,fun e3=>?_,fun e3=>?_⟩
    ·have:=(h1.qr.lt g e3).2;omega
    ·have:=h1.lf.lt;omega
    ·have:=(h1.xr.lt g e3).2;omega
  ·rw[if_neg ei] at e;exact h.a1 i hi g e
theorem OrS.ext {x:Nat}(h:OrS N w GB UB MB QB rv nv U V ms q vq vx xs W)(hb:Below W.heap.size W W1)(ho:W'.ownsRow w.heap.size 3 1 v5 (xs.length+1) (natsV xs++[.int .i64 (x:Int)]))(hg:W1.grownBy W' vx.ownBlock)(hat:v5.ownBlock=vx.ownBlock∨v5.ownBlock=some W1.heap.size) :
  OrS N w GB UB MB QB rv nv U V ms q vq v5 (xs++[x]) W':=by
 have h1:=h.below hb;obtain⟨cm,hm,hm2⟩:=id h1.lf;obtain⟨⟨cu,hu1,hu2⟩,hu3,hu4⟩:=h1.ur;have hkind:∀g,vx.ownBlock=some g->∃c fz,W1.heap[g]?=some (.cells c 3 fz):=fun g e=>Lib.ownsRow_kind h1.xr g e
 have gr:∀ {b:Nat} {t:TypeId} {cs:Array Value},Bl W1 b t cs->t≠3->Bl W' b t cs:=fun hB ht=>hB.grown hg fun g e=>by obtain⟨c,fz,hc⟩:=hkind g e;exact⟨c,3,fz,hc,ht⟩
 have hm5:Bl W' MB 3 cm:=bl_at hm (hg.block MB hm.lt fun e=>h.a3 e.symm);have kr:∀ {u:Value} {n:Nat} {ys:List Value},W1.ownsRow w.heap.size 3 1 u n ys->(∀g,u.ownBlock=some g->vx.ownBlock≠some g)->W'.ownsRow w.heap.size 3 1 u n ys:=fun hu hne=>zwv hu fun g e=>hg.block g (hu.lt g e).2 fun e2=>hne g e e2.symm
 refine⟨h1.lo.grown hg h1.lo.size (fun g e=>(h1.xr.lt g e).1),gr h1.gb (by decide),⟨⟨cu,gr hu1 (by decide),hu2⟩,fun i hi=>kr (hu3 i hi) fun g e=>(h.a1 i hi g e).2.2,hu4⟩,⟨cm,hm5,hm2⟩,gr h1.qb (by decide),kr h1.qr fun g e=>(h.a2 g e).2,by rw[List.length_append,zel];exact ho,fun i hi g e=>⟨(h.a1 i hi g e).1,(h.a1 i hi g e).2.1,?_⟩,fun g e=>⟨(h.a2 g e).1,?_⟩,?_,h.l1,h.l2,h.l3,h.l4⟩
 ·rcases hat with e2|e2
  ·rw[e2];exact(h.a1 i hi g e).2.2
  ·rw[e2];intro e3;injection e3 with e3;have:=((hu3 i hi).lt g e).2;omega
 ·rcases hat with e2|e2
  ·rw[e2];exact(h.a2 g e).2
  ·rw[e2];intro e3;injection e3 with e3;have:=(h1.qr.lt g e).2;omega
 ·rcases hat with e2|e2
  ·rw[e2];exact h.a3
  ·rw[e2];intro e3;injection e3 with e3;have:=h1.lf.lt;omega
end
end
section
open Go.RowKit
def zL (l:List Nat):List Int:=l.map fun(k:Nat)=>(k:Int)
theorem zrp (l m:List Nat):zL (l++m)=zL l++zL m:=by unfold zL;rw[List.map_append]
theorem zjz (l:List Nat):(zL l).length=l.length:=by unfold zL;rw[List.length_map]
theorem z3x {l:List Nat}{x:Nat}:(x:Int) ∈ zL l↔x ∈ l:=by
 unfold zL;rw[List.mem_map];exact⟨fun⟨y,hy,e⟩=>by
               have:y=x:=by omega
               exact this ▸ hy,fun h=>⟨x,h,rfl⟩⟩
def z8m (cs:Nat->List Nat)(N:Nat)(w:World)(e:Ending)(w':World):Prop:=
 (∃(a:Option Addr) (c:Nat) (l:List Nat),e=.returned (.tuple #[.slice a l.length c,.bool true])/\OrdG cs N l/\l.length=N/\w'.ownsRow w.heap.size 3 1 (.slice a l.length c) l.length (natsV l)/\Below w.heap.size w w') ∨
 (e=.returned (.tuple #[.slice none 0 0,.bool false])/\(∃l,OrdG cs N l/\l.length<N/\∀x,¬RdyG cs N l x)/\Below w.heap.size w w')
structure Q1 (cs:Nat->List Nat) (k:Nat) (q:List Int):Prop where
 hp:HpB q q.length
 nd:q.Nodup
 mem:∀x,x ∈ q↔∃r:Nat,x=(r:Int)/\r<k/\cs r=[]
 le:q.length<=k
theorem Q1.start (cs:Nat->List Nat):Q1 cs 0 []:=⟨HpB.nil,List.nodup_nil,fun x=>⟨fun h=>(by cases h),fun⟨r,_,h,_⟩=>absurd h (Nat.not_lt_zero _)⟩,Nat.le_refl _⟩
theorem Q1.skip {cs:Nat->List Nat}{k:Nat}{q:List Int}(h:Q1 cs k q)(hk:cs k≠[]):Q1 cs (k+1) q:=by
 refine⟨h.hp,h.nd,fun x=>?_,by have:=h.le;omega⟩;rw[h.mem];constructor
 ·rintro⟨r,a,b,c⟩;exact⟨r,a,by omega,c⟩
 ·rintro⟨r,a,b,c⟩
  refine⟨r,a,?_,c⟩;rcases Nat.lt_or_ge r k with g|g
  ·exact g
  ·rw[show r=k by omega] at c;exact absurd c hk
theorem Q1.add {cs:Nat->List Nat}{k:Nat}{q q':List Int}(h:Q1 cs k q)(hk:cs k=[])(hh:HpB q' q'.length)(hp:q'.Perm (q++[(k:Int)])):Q1 cs (k+1) q':=by
 have hl:=hp.length_eq;rw[List.length_append] at hl;refine⟨hh,hp.nodup_iff.2 (List.nodup_append.2 ⟨h.nd,List.nodup_cons.2 ⟨List.not_mem_nil,List.nodup_nil⟩,fun a ha b hb e=>?_⟩),fun x=>?_,by have:=h.le;simp at hl;omega⟩
 ·obtain⟨r,e1,e2,-⟩:=(h.mem a).1 ha
  have:=List.mem_singleton.1 hb;omega
 ·rw[hp.mem_iff,List.mem_append,h.mem,List.mem_singleton]
  constructor
  ·rintro(⟨r,a,b,c⟩|e)
   ·exact⟨r,a,by omega,c⟩
   ·exact⟨k,e,by omega,hk⟩
  ·rintro⟨r,a,b,c⟩
   rcases Nat.lt_or_ge r k with g|g
   ·exact .inl ⟨r,a,g,c⟩
   ·rw[show r=k by omega] at a;exact .inr a
def clrI (cs:Nat->List Nat)(k i c:Nat):List Nat:=clrL cs k c++if c ∈ (cs k).take i then [k] else []
theorem zw5 (cs:Nat->List Nat)(k c:Nat):clrI cs k 0 c=clrL cs k c:=by unfold clrI;rw[List.take_zero,if_neg List.not_mem_nil,List.append_nil]
theorem z1j (cs:Nat->List Nat)(k c:Nat):clrI cs k (cs k).length c=clrL cs (k+1) c:=by
 unfold clrI;rw[List.take_length];by_cases h:c ∈ cs k
 ·rw[if_pos h,z06 h]
 ·rw[if_neg h,z5w h,List.append_nil]
theorem zw6 {cs:Nat->List Nat}{k i x c:Nat}(hn:(cs k).Nodup)(hx:(cs k)[i]?=some x):clrI cs k (i+1) c=if c=x then clrI cs k i c++[k] else clrI cs k i c:=by
 unfold clrI;rw[List.take_add_one,hx];by_cases e:c=x
 ·subst e
  rw[if_pos rfl,if_pos (List.mem_append_right _ (by simp)),if_neg,List.append_nil];intro hm;obtain⟨t,ht,et⟩:=List.mem_iff_getElem.1 hm;rw[List.length_take] at ht;have h2:(cs k)[t]?=some c:=by rw[<-List.getElem?_take_of_lt (show t<i by omega),List.getElem?_eq_getElem (by rw[List.length_take];omega),et]
  have:=zjs hn h2 hx;omega
 ·rw[if_neg e]
  have:c ∈ (cs k).take i++(some x).toList↔c ∈ (cs k).take i:=by simp[e]
  simp only[this]
theorem z54 (cs:Nat->List Nat)(k i c:Nat):(clrI cs k i c).length<=k+1:=by
 unfold clrI;have:=zwp (cs:=cs) k c;rw[List.length_append];split<;>simp<;>omega
theorem zL_of {q:List Int}(h:∀x,x ∈ q->0<=x):∃l,q=zL l:=by
 refine⟨q.map Int.toNat,?_⟩;unfold zL;rw[List.map_map];have:∀x,x ∈ q->((fun(k:Nat)=>(k:Int)) ∘ Int.toNat) x=x:=fun x hx=>by
  have:=h x hx;show((x.toNat:Nat):Int)=x;omega
 rw[List.map_congr_left this,List.map_id']
theorem z1k {l:List Nat}(h:(zL l).Nodup):l.Nodup:=by
 rw[List.nodup_iff_pairwise_ne] at h ⊢;unfold zL at h;rw[List.pairwise_map] at h;exact h.imp fun h e=>h (by rw[e])
theorem zw7 {a b:List Nat}(h:(zL a).Perm (zL b)):a.Perm b:=by
 have h2:=h.map Int.toNat;unfold zL at h2;rw[List.map_map,List.map_map] at h2;have e:∀l:List Nat,l.map (Int.toNat ∘ fun(k:Nat)=>(k:Int))=l:=fun l=>by
  have:(Int.toNat ∘ fun(k:Nat)=>(k:Int))=id:=by funext k;simp
  rw[this,List.map_id]
 rwa [e,e] at h2
theorem Q1.over {cs:Nat->List Nat}{N:Nat}{q:List Int}(h:Q1 cs N q):∃l,q=zL l/\QdS (cs:=cs) (N:=N) [] l:=by
 obtain⟨l,rfl⟩:=zL_of (q:=q) fun x hx=>by obtain⟨r,e,-⟩:=(h.mem x).1 hx;omega
 refine⟨l,rfl,OrdG.nil,z1k h.nd,fun x=>?_⟩;rw[<-z3x,h.mem];constructor
 ·rintro⟨r,e,h1,h2⟩
  have:x=r:=by omega
  subst this;exact⟨h1,List.not_mem_nil,fun c hc=>by rw[h2] at hc;cases hc⟩
 ·rintro⟨h1,-,h2⟩
  refine⟨x,rfl,h1,?_⟩;cases hx:cs x with
  |nil=>rfl
  |cons a t=>exact absurd (h2 a (by rw[hx];exact List.mem_cons_self ..)) List.not_mem_nil
theorem z8n {qn:List Nat}{m:List Int}{x:Int}(hp:(m++[x]).Perm (zL qn)):∃(mn:List Nat) (r:Nat),x=(r:Int)/\m=zL mn/\(mn++[r]).Perm qn:=by
 have h0:∀y,y ∈ m++[x]->0<=y:=fun y hy=>by
  have:=hp.mem_iff.1 hy;unfold zL at this;obtain⟨k,-,e⟩:=List.mem_map.1 this;omega
 obtain⟨mn,rfl⟩:=zL_of (q:=m) fun y hy=>h0 y (List.mem_append_left _ hy)
 obtain⟨r,rfl⟩:∃r:Nat,x=(r:Int):=⟨x.toNat,by have:=h0 x (List.mem_append_right _ (List.mem_singleton.2 rfl));omega⟩;refine⟨mn,r,rfl,rfl,zw7 ?_⟩;rw[zrp];exact hp
theorem zj0 (rv nv:Value)(rs:List PR)(ns:List PN)(w:World)(hR:RulesIn w rv rs)(hN:NodesAt w nv ns)(hC:CapsAt w nv ns.length)(hO:LeftOk rs ns) :
  Calls Tryz.prog 20 #[.agg #[rv,nv]] w (z8m (zai rs ns) rs.length w):=by
 have hrl:=hO.rl;obtain⟨ii,hii,hz0,hz1,hz2⟩:=info_parts za3;have HCL:=Lib.hid (fun(r:Nat) (hr:r<rs.length) (W:World) (hb:Below w.heap.size w W)=>ze1 rv nv rs ns r W (hR.kept hb (Nat.le_refl _)) (hN.kept hb (Nat.le_refl _)) (hC.kept hN rfl hb) hO hr);obtain⟨-,ra,rc,rfl,-⟩:=hR;obtain⟨-,na,nc,rfl,-⟩:=hN;have HLT:=Lib.hid (fun(a x:Nat) (h:x ∈ zai rs ns a)=>zdr h);have HND:=Lib.hid (fun(a:Nat)=>(zgq rs ns a).nodup);have HLE:=Lib.hid (fun(a:Nat)=>Nat.le_trans (zgo rs ns a) hrl);unfold zb5 at HCL;generalize hcs:zai rs ns=cs at *;have hmk1:=fun w=>run_make_row' (P:=Tryz.prog) 33 29 (.slice none 0 0) 24 Tryz.underlying33 zrb rfl .i64 .i64 rs.length (by omega) (by omega) w
 have hmk2:=fun w=>run_make_row' (P:=Tryz.prog) 29 3 (.int .i64 0) 8 Tryz.underlying29 za3 rfl .i64 .i64 rs.length (by omega) (by omega) w
 clear hC hcs hO;go_enter Tryz.func20,Tryz.ntmps20
 go_upto_region 4 with fail
 obtain⟨W4,hW4⟩:∃W4,(((w.alloc (.cells #[.slice ra rs.length rc,.slice na ns.length nc] 25)).alloc (.cells (madeCells #[.slice none 0 0] rs.length) 29)).alloc (.cells (madeCells #[.int .i64 0] rs.length) 3)).alloc (.cells #[.slice none 0 0] 66)=W4:=⟨_,rfl⟩;have HS4:Hid (OrS rs.length w w.heap.size (w.heap.size+1) (w.heap.size+1+1) (w.heap.size+1+1+1) (.slice ra rs.length rc) (.slice na ns.length nc) (fun _=>[]) (fun _=>.slice none 0 0) (fun _=>0) [] (.slice none 0 0) (.slice none 0 0) [] W4):=Lib.hid (by
  rw[<-hW4];refine⟨zar (zar (zar (zar (Below.refl _ _)))),((Bl.new w _ _).past.past).past,⟨⟨madeCells #[.slice none 0 0] rs.length,(Bl.new' (by simp)).past.past,fun i hi=>by simp[madeCells,hi,Nat.mod_one]⟩,fun i hi=>World.ownsRow_nil _ _ _ _,fun i j _ _ _=>.inl rfl⟩,⟨madeCells #[.int .i64 0] rs.length,(Bl.new' (by simp)).past,fun i hi=>by simp[madeCells,hi,Nat.mod_one]⟩,Bl.new' (by simp),World.ownsRow_nil _ _ _ _,World.ownsRow_nil _ _ _ _,fun i _ g e=>(by cases e),fun g e=>(by cases e),fun e=>(by cases e),Nat.le_refl _,by omega,by omega,by omega⟩)
 have g0:W4.cell? ⟨w.heap.size,0,none⟩=some (.slice ra rs.length rc):=HS4.out.gb.cell (o:=0) rfl;have gl:=HS4.out.gb.lt;rw[hW4];clear hW4;go_wp2;clear g0 gl
 go_loopw [26] (fun vk wr=>∃(k:Nat) (U:Nat->List Int) (V:Nat->Value) (ms:Nat->Nat) (q:List Int) (vq:Value),vk=.int .i64 (k:Int)/\k<=rs.length/\OrS rs.length w w.heap.size (w.heap.size+1) (w.heap.size+1+1) (w.heap.size+1+1+1) (.slice ra rs.length rc) (.slice na ns.length nc) U V ms q vq (.slice none 0 0) [] wr/\(∀c,U c=zL (clrL cs k c))/\(∀r,r<k->ms r=(cs r).length)/\Q1 cs k q) (fun vk _=>rs.length-(intOf vk).toNat)
 case atStart=>exact⟨0,_,_,_,_,_,rfl,Nat.zero_le _,HS4.out,fun c=>rfl,fun r h=>absurd h (Nat.not_lt_zero _),Q1.start cs⟩
 case round=>
  clear HS4;obtain⟨k,U,V,ms,q,vq,rfl,hk,hS,hU,hms,hQ⟩:=hrel;have HS:=Lib.hid hS;have HU:=Lib.hid hU;have HMS:=Lib.hid hms;have HQ:=Lib.hid hQ;by_cases hlt:k<rs.length
  ·have k1:(k:Int)<(rs.length:Int):=by omega
   have g0:wr.cell? ⟨w.heap.size,0,none⟩=some (.slice ra rs.length rc):=hS.gb.cell (o:=0) rfl;have g1:wr.cell? ⟨w.heap.size,1,none⟩=some (.slice na ns.length nc):=hS.gb.cell (o:=1) rfl;have gl:=hS.gb.lt;obtain⟨l,hl⟩:∃l,cs k=l:=⟨_,rfl⟩;have HC1:=Lib.hid (HCL.out k hlt wr hS.lo);rw[hl] at HC1;have HL:=Lib.hid hl;have hll:l.length<=30:=by rw[<-hl];exact HLE.out k
   clear hS hU hms hQ hl
   go_upto_region 8 with(go_at_call 11;(with_reducible refine HC1.out.mono ?_);rintro e w4 ⟨u,rfl,ho4,hb4⟩;obtain⟨la,lc,rfl⟩:=zad ho4;have HS5:=Lib.hid (HS.out.new hb4 ho4);have m4:=HS5.out.lf.cell hlt;have f4:=HS5.out.lf.free k;have l4:=HS5.out.lf.lt;have hlen4:=hb4;clear ho4 hb4 hlen4)
   go_wp2;have HS6:=Lib.hid (HS5.out.put (ms':=fun r=>if r=k then l.length else ms r) hlt (if_pos rfl) (fun j hj=>if_neg hj));obtain⟨W6,hW6⟩:∃W6,w4.setCell ⟨w.heap.size+1+1,k,none⟩ (.int .i64 (l.length:Int))=W6:=⟨_,rfl⟩;rw[hW6] at HS6;rw[hW6];clear hW6 HS5 HS HC1 m4 f4 l4 g0 g1 gl;obtain⟨wo,rfl⟩:∃wo,wo=wr:=⟨_,rfl⟩
   go_loopw [39] (fun vi wr=>∃(i:Nat) (U:Nat->List Int) (V:Nat->Value),vi=.int .i64 (i:Int)/\i<=l.length/\OrS rs.length w w.heap.size (w.heap.size+1) (w.heap.size+1+1) (w.heap.size+1+1+1) (.slice ra rs.length rc) (.slice na ns.length nc) U V (fun r=>if r=k then l.length else ms r) q vq (.slice la l.length lc) l wr/\∀c,U c=zL (clrI cs k i c)) (fun vi _=>l.length-(intOf vi).toNat)
   case atStart=>exact⟨0,U,V,rfl,Nat.zero_le _,HS6.out,fun c=>by rw[zw5];exact HU.out c⟩
   case round=>
    clear HS6;obtain⟨i,U,V,rfl,hi,hS,hU⟩:=hrel;have HS:=Lib.hid hS;have HU:=Lib.hid hU;by_cases hil:i<l.length
    ·obtain⟨x,hx⟩:∃x,l[i]?=some x:=⟨_,List.getElem?_eq_getElem hil⟩
     obtain⟨lg,rfl,-,hcl,-⟩:=zan hS.xr (by omega);have cx:=hcl i _ (zez hx);have ll:=zac cx;have i1:(i:Int)<(l.length:Int):=by omega
     have hxm:x ∈ cs k:=by rw[HL.out];exact List.mem_of_getElem? hx
     have hxr:=HLT.out k x hxm;have i2:(x:Int)<(rs.length:Int):=by omega
     have hxi:(cs k)[i]?=some x:=by rw[HL.out];exact hx
     have HSTEP:=Lib.hid (fun c=>zw6 (c:=c) (HND.out k) hxi);have hrow:=hS.ur.row x hxr;obtain⟨va,vc,hv⟩:=zad hrow;have cu:=hS.ur.cell hxr;have fu:=hS.ur.free x;have lu:=hS.ur.lt;rw[hv] at hrow cu;have HV:=Lib.hid hv;have HROW:=Lib.hid hrow;have hul:(U x).length<=31:=by rw[hU,zjz];have:=z54 cs k i x;omega
     obtain⟨un,hun⟩:∃un,(U x).length=un:=⟨_,rfl⟩;obtain⟨⟨cu5,hB5,hcu5⟩,-,-⟩:=hS.ur;have HB5:=Lib.hid hB5;have HC5:=Lib.hid (hcu5 x hxr);have HUN:=Lib.hid hun;rw[hun] at cu HROW HV hul;have hwz:=hS.lo.size;clear hS hU hcl hx hxm hxi hrow hv hun hB5 hcu5
     go_wp2_with (at_builtin;refine wpList_append_own_at _ rfl _ _ 29 rfl w.heap.size 3 ii (.int .i64 0) 1 8 Tryz.underlying29 hii hz0 hz1 hz2 rfl (by decide) _ un _ rfl (zaa HROW.out (zab _ _)) ⟨wr.heap.size,0,none⟩ 1 1 [.int .i64 (k:Int)] rfl rfl (zaq _ _ _) (by simp[Value.oneCell']) (by unfold maxLen;omega) (by omega) (by simp;omega) ?_;intro v6 w6 hown' hgrow _ hat;obtain⟨a6,c6,rfl⟩:=zad hown';have HS6:=Lib.hid (HS.out.clr (x:=(k:Int)) hxr (zab wr (.cells #[.int .i64 (k:Int)] 3)) (by rw[HUN.out];exact hown') (by rw[HV.out];exact hgrow) (by rw[HV.out];exact hat));have hb6:=(HB5.out.below (zab wr (.cells #[.int .i64 (k:Int)] 3))).grown hgrow (fun g e=>by obtain⟨c,fz,hc⟩:=Lib.ownsRow_kind (zaa HROW.out (zab wr (.cells #[.int .i64 (k:Int)] 3))) g e;exact⟨c,3,fz,hc,by decide⟩);have x6:=hb6.cell HC5.out;have f6:=hb6.free x;have l6:=hb6.lt;clear hown' hgrow hat hb6)
     go_roundw
     case rel=>exact⟨i+1,_,_,by go_num,by omega,HS6.out,fun c=>by
      rw[HSTEP.out c];unfold updU;by_cases e:c=x
      ·rw[if_pos e,if_pos e,e,HU.out x,zrp];rfl
      ·rw[if_neg e,if_neg e];exact HU.out c⟩
     case measure=>simp[intOf];omega
    ·obtain rfl:i=l.length:=by omega
     have i1:¬(l.length:Int)<(l.length:Int):=by omega
     have HU2:Hid (∀c,U c=zL (clrL cs (k+1) c)):=Lib.hid (fun c=>by rw[<-z1j,HL.out];exact HU.out c);have HM2:Hid (∀r,r<k+1->(if r=k then l.length else ms r)=(cs r).length):=Lib.hid (fun r hr=>by
      by_cases e:r=k
      ·rw[if_pos e,e,HL.out]
      ·rw[if_neg e];exact HMS.out r (by omega))
     have hql:=HQ.out.le;have hqb:=hS.qb;have hqq:LQAt w.heap.size (w.heap.size+1+1+1) q wr:=by
      obtain⟨qa,qc,rfl⟩:=zad hS.qr;exact⟨qa,qc,hS.qb,hS.qr⟩
     have hwz:=hS.lo.size;by_cases h0:l.length=0
     ·have q1:((l.length:Int) == 0)=true:=by rw[beq_iff_eq];omega
      have HPU:=Lib.hid (zjq w.heap.size (w.heap.size+1+1+1) q (k:Int) wr hqq HQ.out.hp (by omega) hwz);clear hS hU hqb hqq
      go_wp2_with (go_at_call 41;(with_reducible refine HPU.out.mono ?_);rintro e w7 ⟨⟨v7,rfl⟩,m,hm1,hm2,hm3,hm4⟩;have HM7:=Lib.hid (HS.out.drop.que hm1 hm4);have HQ7:=Lib.hid (HQ.out.add (by rw[HL.out];exact List.length_eq_zero_iff.1 h0) hm2 hm3);clear hm1 hm2 hm3 hm4)
      obtain⟨a7,c7,hs7⟩:=HM7.out;exact⟨⟨k+1,U,V,_,m,_,by first|go_num|omega,by omega,hs7,HU2.out,HM2.out,HQ7.out⟩,by simp[intOf];omega⟩
     ·have q1:((l.length:Int) == 0)=false:=by rw[beq_eq_false_iff_ne];omega
      have HQ7:=Lib.hid (HQ.out.skip (by rw[HL.out];intro e;exact h0 (by rw[e];rfl)));clear hS hU hqb hqq;go_wp2;exact⟨⟨k+1,U,V,_,q,vq,by first|go_num|omega,by omega,HS.out.drop,HU2.out,HM2.out,HQ7.out⟩,by simp[intOf];omega⟩
  ·obtain rfl:k=rs.length:=by omega
   have k1:¬(rs.length:Int)<(rs.length:Int):=by omega
   obtain rfl:U=fun c=>zL (clrL cs rs.length c):=funext HU.out
   obtain⟨qn,rfl,hqd⟩:=HQ.out.over;have HMS2:Hid (∀x,x<rs.length->ms x=msN cs [] x):=Lib.hid (fun x hx=>by rw[z5x];exact HMS.out x hx);have HHP:=Lib.hid HQ.out.hp;have HQD:=Lib.hid hqd;clear hS hU hms hQ HQ HMS HU hqd;go_wp2;obtain⟨wo,rfl⟩:∃wo,wo=wr:=⟨_,rfl⟩
   go_loopw [11] (fun vo wr=>∃(out qn:List Nat) (V:Nat->Value) (ms:Nat->Nat) (vq:Value),OrS rs.length w w.heap.size (w.heap.size+1) (w.heap.size+1+1) (w.heap.size+1+1+1) (.slice ra rs.length rc) (.slice na ns.length nc) (fun c=>zL (clrL cs rs.length c)) V ms (zL qn) vq vo out wr/\(∀x,x<rs.length->ms x=msN cs out x)/\HpB (zL qn) (zL qn).length/\QdS (cs:=cs) (N:=rs.length) out qn) (fun vo _=>rs.length+1-(match vo with|.slice _ n _=>n|_=>0))
   case atStart=>exact⟨[],qn,V,ms,vq,HS.out,HMS2.out,HHP.out,HQD.out⟩
   case round=>
    clear HS HMS2 HHP HQD;obtain⟨out,qn,V,ms,vq,hS,hms,hhp,hqd⟩:=hrel;obtain⟨oa,oc,rfl⟩:=zad hS.xr;obtain⟨qa,qc,rfl⟩:=zad hS.qr;have q0:wr.cell? ⟨w.heap.size+1+1+1,0,none⟩=some (.slice qa (zL qn).length qc):=hS.qb.cell (o:=0) rfl;have ql:=hS.qb.lt;have hol:=hqd.ord.le;have HS:=Lib.hid hS;have HMS:=Lib.hid hms;have HQD:=Lib.hid hqd;cases hqn:qn with
    |nil=>
     subst hqn;rw[show(zL []).length=0 from rfl] at q0;have HNR:Hid (∀x,¬RdyG cs rs.length out x):=Lib.hid (fun x hx=>by have:=(HQD.out.mem x).2 hx;cases this);clear hS hms hhp hqd;by_cases hfull:out.length=rs.length
     ·have k2:¬(out.length:Int)<(rs.length:Int):=by omega
      have g0:wr.cell? ⟨w.heap.size,0,none⟩=some (.slice ra rs.length rc):=HS.out.gb.cell (o:=0) rfl;have gl:=HS.out.gb.lt
      go_wp2_with (go_at_call 42;(with_reducible refine(zek _ _ _ _).mono ?_);rintro e w3 ⟨rfl,hw⟩;obtain rfl:=hw.symm;clear hw)
      refine bodyPost_ret (v:=.tuple #[.slice oa out.length oc,.bool true]) (by simp[results,Tryz.results20,go_sem,hfull]) rfl ?_;exact .inl ⟨oa,oc,out,rfl,HQD.out.ord,hfull,HS.out.xr,HS.out.lo⟩
     ·have k2:(out.length:Int)<(rs.length:Int):=by omega
      have g0:wr.cell? ⟨w.heap.size,0,none⟩=some (.slice ra rs.length rc):=HS.out.gb.cell (o:=0) rfl;have gl:=HS.out.gb.lt
      go_wp2_with (go_at_call 42;(with_reducible refine(zek _ _ _ _).mono ?_);rintro e w3 ⟨rfl,hw⟩;obtain rfl:=hw.symm;clear hw)
      refine bodyPost_ret (v:=.tuple #[.slice none 0 0,.bool false]) (by simp[results,Tryz.results20,go_sem]) rfl ?_;exact .inr ⟨rfl,⟨out,HQD.out.ord,by omega,HNR.out⟩,HS.out.lo⟩
    |cons qh qt=>
     have hn1:(zL qn).length=qt.length+1:=by rw[zjz,hqn];rfl
     have hqle:qn.length<=rs.length:=zce _ _ hqd.nd fun x hx=>((hqd.mem x).1 hx).1
     obtain⟨n,hn⟩:∃n,qt.length=n:=⟨_,rfl⟩;rw[hn] at hn1;have hnle:n<=30:=by rw[zjz] at hn1;omega
     rw[hn1] at q0;have hta:=fun(y:Int)=>zet y
     have HPO:=Lib.hid (zwn w.heap.size (w.heap.size+1+1+1) n (zL qn) wr ⟨qa,qc,hS.qb,hS.qr⟩ hhp hn1 (by omega));have k3:(0:Int)<((n+1:Nat):Int):=by omega
     have k4:(0:Int)<(n:Int)+1:=by omega
     have hwz:=hS.lo.size;unfold z3r at HPO;clear hS hms hhp hqd hqn hn
     go_upto_region 21 with(first
      |(go_at_call 42;(with_reducible refine(zek _ _ _ _).mono ?_);rintro e w3 ⟨rfl,hw⟩;obtain rfl:=hw.symm;clear hw)
      |(go_at_call 43;(with_reducible refine HPO.out.mono ?_);rintro e w5 ⟨x5,m5,rfl,h51,h52,h53,h54,h55⟩;obtain⟨mn,r,rfl,rfl,hpn⟩:=z8n h53;obtain⟨a5,c5,hs5⟩:=HS.out.que h51 h55;have HS5:=Lib.hid hs5;have HHP5:=Lib.hid h52;have HQI:=Lib.hid (HQD.out.pop hpn (fun y hy=>by have:=h54 (y:Int) (z3x.2 hy);omega));have hz5:=hs5.lo.size;clear h51 h52 h53 h54 h55 hs5 hpn)
      |(at_builtin;refine wpList_append_own_at _ rfl _ _ 29 rfl w.heap.size 3 ii (.int .i64 0) 1 8 Tryz.underlying29 hii hz0 hz1 hz2 rfl (by decide) _ out.length _ rfl (zaa HS5.out.xr (zab _ _)) ⟨w5.heap.size,0,none⟩ 1 1 [.int .i64 (r:Int)] rfl rfl (zaq _ _ _) (by simp[Value.oneCell']) (by unfold maxLen;omega) (by omega) (by simp;omega) ?_;intro v6 w6 hown' hgrow _ hat;obtain⟨a6,c6,rfl⟩:=zad hown';have HS6:=Lib.hid (HS5.out.ext (zab w5 (.cells #[.int .i64 (r:Int)] 3)) hown' hgrow hat);clear hown' hgrow hat))
     have hrN:=HQI.out.rdy.1;have hrow:=HS6.out.ur.row r hrN;obtain⟨va,vc,hv⟩:=zad hrow;have cu:=HS6.out.ur.cell hrN;have lu:=HS6.out.ur.lt;rw[hv] at cu;have HV:=Lib.hid hv;obtain⟨L,hL⟩:∃L,clrL cs rs.length r=L:=⟨_,rfl⟩;rw[hL,zjz] at HV cu;have hLL:L.length<=rs.length:=by rw[<-hL];exact zwp rs.length r
     have HL:=Lib.hid hL;have i3:(r:Int)<(rs.length:Int):=by omega
     clear hrow hv hL HS HS5 HPO HQD hta q0 ql;go_wp2;clear cu lu;obtain⟨w8,rfl⟩:∃w8,w8=wr:=⟨_,rfl⟩
     go_loopw [77] (fun vi wr=>∃(i:Nat) (qn:List Nat) (ms:Nat->Nat) (vq:Value),vi=.int .i64 (i:Int)/\i<=L.length/\OrS rs.length w w.heap.size (w.heap.size+1) (w.heap.size+1+1) (w.heap.size+1+1+1) (.slice ra rs.length rc) (.slice na ns.length nc) (fun c=>zL (clrL cs rs.length c)) V ms (zL qn) vq (.slice a6 (out.length+1) c6) (out++[r]) wr/\(∀x,x<rs.length->ms x=if x ∈ L.take i then msN cs (out++[r]) x else msN cs out x)/\HpB (zL qn) (zL qn).length/\QiS (cs:=cs) (N:=rs.length) out qn r i) (fun vi _=>L.length-(intOf vi).toNat)
     case atStart=>exact⟨0,mn,ms,_,rfl,Nat.zero_le _,HS6.out,fun x hx=>by rw[List.take_zero,if_neg List.not_mem_nil];exact HMS.out x hx,HHP5.out,HQI.out⟩
     case round=>
      clear HS6 HHP5 HMS;obtain⟨i,pn,ms,vq,rfl,hi,hS,hms,hhp,hqi⟩:=hrel;have HS:=Lib.hid hS;have HMS:=Lib.hid hms;have HQI:=Lib.hid hqi;have hpl:pn.length<=rs.length:=zce _ _ hqi.nd fun x hx=>by
       rcases(hqi.mem x).1 hx with h|h
       ·exact h.1.1
       ·have:=(List.take_sublist i (clrL cs rs.length r)).subset h.1
        exact(zf8.1 this).1
      by_cases hil:i<L.length
      ·obtain⟨x,hx⟩:∃x,L[i]?=some x:=⟨_,List.getElem?_eq_getElem hil⟩
       have hxi:(clrL cs rs.length r)[i]?=some x:=by rw[HL.out];exact hx
       obtain⟨hxN,hrx⟩:=zf8.1 (List.mem_of_getElem? hxi);have hxt:x ∉ L.take i:=fun hm=>by
        obtain⟨t,ht,et⟩:=List.mem_iff_getElem.1 hm;rw[List.length_take] at ht;have h2:L[t]?=some x:=by rw[<-List.getElem?_take_of_lt (show t<i by omega),List.getElem?_eq_getElem (by rw[List.length_take];omega),et]
        rw[<-HL.out] at h2;have:=zjs (zjt rs.length r) h2 hxi;omega
       have hmx:ms x=msN cs (out++[r]) x+1:=by
        rw[hms x hxN,if_neg hxt,zri (HND.out x) hqi.rdy.2.1,if_pos hrx]
       have hrow:=hS.ur.row r hrN;rw[HV.out,HL.out,zjz] at hrow;obtain⟨vg,rfl,-,hcv,-⟩:=zan hrow (by omega);have cx:=hcv i (.int .i64 (x:Int)) (zez hx);have ll:=zac cx;have m0:=hS.lf.cell hxN;have mf:=hS.lf.free x;have ml:=hS.lf.lt;rw[hmx] at m0;obtain⟨y,hy⟩:∃y,msN cs (out++[r]) x=y:=⟨_,rfl⟩;rw[hy] at m0;have hyb:y<=30:=by
        rw[<-hy];exact Nat.le_trans (List.length_filter_le _ _) (HLE.out x)
       have w1:IntKind.i64.wrap (((y+1:Nat):Int)-1)=(y:Int):=by rw[show((y+1:Nat):Int)-1=(y:Int) by omega];exact IntWalk.i64_in _ (by omega)
       have w2:IntKind.i64.wrap (((y:Nat):Int)+1-1)=(y:Int):=by rw[show((y:Nat):Int)+1-1=(y:Int) by omega];exact IntWalk.i64_in _ (by omega)
       have i1:(i:Int)<(L.length:Int):=by omega
       have i2:(x:Int)<(rs.length:Int):=by omega
       have HY:=Lib.hid hy;have HXI:=Lib.hid hxi;have HXT:=Lib.hid hxt;have HX:=Lib.hid hx;have HHP:=Lib.hid hhp;have hwz:=hS.lo.size;clear hS hms hhp hqi hx hxi hxt hmx hrow hcv hy hrx
       go_upto_region 25 with fail
       have HS7:=Lib.hid (HS.out.put (ms':=fun z=>if z=x then y else ms z) hxN (if_pos rfl) (fun j hj=>if_neg hj));obtain⟨W7,hW7⟩:∃W7,wr.setCell ⟨w.heap.size+1+1,x,none⟩ (.int .i64 (y:Int))=W7:=⟨_,rfl⟩;rw[hW7] at HS7;rw[hW7];clear hW7 m0 mf ml cx ll;have m0:W7.cell? ⟨w.heap.size+1+1,x,none⟩=some (.int .i64 (y:Int)):=by
        have:=HS7.out.lf.cell hxN;simpa using this
       have ml:=HS7.out.lf.lt;have HM7:Hid (∀z,z<rs.length->(if z=x then y else ms z)=if z ∈ L.take (i+1) then msN cs (out++[r]) z else msN cs out z):=Lib.hid (fun z hz=>by
        rw[List.take_add_one,HX.out];by_cases e:z=x
        ·subst e
         rw[if_pos rfl,if_pos (List.mem_append_right _ (by simp)),HY.out]
        ·rw[if_neg e,HMS.out z hz]
         have:z ∈ L.take i++(some x).toList↔z ∈ L.take i:=by simp[e]
         simp only[this])
       by_cases h0:y=0
       ·have q1:((y:Int) == 0)=true:=by rw[beq_iff_eq];omega
        have hqq:LQAt w.heap.size (w.heap.size+1+1+1) (zL pn) W7:=by
         have hqr:=HS7.out.qr;obtain⟨qa7,qc7,rfl⟩:=zad hqr;exact⟨qa7,qc7,HS7.out.qb,hqr⟩
        have HPU:=Lib.hid (zjq w.heap.size (w.heap.size+1+1+1) (zL pn) (x:Int) W7 hqq HHP.out (by rw[zjz];omega) HS7.out.lo.size);clear hqq
        go_wp2_with (go_at_call 41;(with_reducible refine HPU.out.mono ?_);rintro e w9 ⟨⟨v9,rfl⟩,m,hm1,hm2,hm3,hm4⟩;obtain⟨m',rfl⟩:=zL_of (q:=m) (fun z hz=>by have:=hm3.mem_iff.1 hz;rw[show zL pn++[(x:Int)]=zL (pn++[x]) by rw[zrp];rfl] at this;unfold zL at this;obtain⟨k,-,e⟩:=List.mem_map.1 this;omega);obtain⟨a9,c9,hs9⟩:=HS7.out.que hm1 hm4;have HS9:=Lib.hid hs9;have HH9:=Lib.hid hm2;have HP9:=Lib.hid (zw7 (show(zL m').Perm (zL (pn++[x])) by rw[zrp];exact hm3));clear hm1 hm2 hm3 hm4 hs9)
        go_roundw
        case rel=>exact⟨i+1,m',_,_,by go_num,by omega,HS9.out,HM7.out,HH9.out,HQI.out.add HXI.out (HY.out.trans h0) HP9.out⟩
        case measure=>simp[intOf];omega
       ·have q1:((y:Int) == 0)=false:=by rw[beq_eq_false_iff_ne];omega
        go_wp2;go_roundw
        case rel=>exact⟨i+1,pn,_,vq,by go_num,by omega,HS7.out,HM7.out,HHP.out,HQI.out.told HXI.out (by rw[HY.out];exact h0)⟩
        case measure=>simp[intOf];omega
      ·obtain rfl:i=L.length:=by omega
       have i1:¬(L.length:Int)<(L.length:Int):=by omega
       have HQN:=Lib.hid (hqi.next (by rw[HL.out];exact Nat.le_refl _));have HM2:Hid (∀x,x<rs.length->ms x=msN cs (out++[r]) x):=Lib.hid (fun x hx=>by
        rw[HMS.out x hx,List.take_length,<-HL.out];by_cases e:x ∈ clrL cs rs.length r
        ·rw[if_pos e]
        ·rw[if_neg e,zri (HND.out x) HQI.out.rdy.2.1,if_neg fun g=>e (zf8.2 ⟨hx,g⟩)];rfl)
       have HHP:=Lib.hid hhp;have hole:=HQN.out.ord.le;rw[List.length_append] at hole;clear hS hms hhp hqi;go_wp2;exact⟨⟨out++[r],pn,V,ms,vq,HS.out,HM2.out,HHP.out,HQN.out⟩,by simp at hole ⊢;omega⟩
end
end Go.Proofs.YthhppmehhdlmnaaGreatDoor
