/- Layer 13: heaps in a list: going up, going down, the least one is first. Layer 13: left's queue: Len, Less, Swap, Push, Pop; container/heap over it with the hea -/
import Derived.Test.YthhppmehhdlmnaaGreatDoorPzB
import Derived.Test.YthhppmehhdlmnaaGreatDoorPzMM
set_option maxRecDepth 100000
set_option maxHeartbeats 8000000
namespace Go.Proofs.YthhppmehhdlmnaaGreatDoor
def HpB (l:List Int)(n:Nat):Prop:=∀(k:Nat) (x y:Int),0<k->k<n->l[(k-1)/2]?=some x->l[k]?=some y->x<=y
def UpI (l:List Int)(j:Nat):Prop:=(∀(k:Nat) (x y:Int),0<k->k≠j->l[(k-1)/2]?=some x->l[k]?=some y->x<=y)/\∀(k:Nat) (x y:Int),0<j->0<k->(k-1)/2=j->l[(j-1)/2]?=some x->l[k]?=some y->x<=y
def DnI (l:List Int)(i n:Nat):Prop:=(∀(k:Nat) (x y:Int),0<k->k<n->(k-1)/2≠i->l[(k-1)/2]?=some x->l[k]?=some y->x<=y)/\∀(k:Nat) (x y:Int),0<i->0<k->k<n->(k-1)/2=i->l[(i-1)/2]?=some x->l[k]?=some y->x<=y
def swL (l:List Int)(i j:Nat):List Int:=match l[i]?,l[j]? with
 |some x,some y=>(l.set i y).set j x
 |_,_=>l
section
variable {l:List Int} {i j n:Nat} {x y:Int}
theorem zre (hx:l[i]?=some x)(hy:l[j]?=some y):swL l i j=(l.set i y).set j x:=by unfold swL;rw[hx,hy]
theorem zid:(swL l i j).length=l.length:=by
 unfold swL;split
 ·rw[List.length_set,List.length_set]
 ·rfl
theorem swL_j (hx:l[i]?=some x)(hy:l[j]?=some y):(swL l i j)[j]?=some x:=by
 have:=(List.getElem?_eq_some_iff.1 hy).1;rw[zre hx hy,List.getElem?_set_self (by rw[List.length_set];exact this)]
theorem swL_i (hx:l[i]?=some x)(hy:l[j]?=some y):(swL l i j)[i]?=some y:=by
 have:=(List.getElem?_eq_some_iff.1 hx).1;rw[zre hx hy];by_cases e:j=i
 ·subst e
  rw[hx] at hy;cases hy;rw[List.getElem?_set_self (by rw[List.length_set];exact this)]
 ·rw[List.getElem?_set_ne e,List.getElem?_set_self this]
theorem zdl {k:Nat}(hx:l[i]?=some x)(hy:l[j]?=some y)(hi:k≠i)(hj:k≠j):(swL l i j)[k]?=l[k]?:=by
 rw[zre hx hy,List.getElem?_set_ne (Ne.symm hj),List.getElem?_set_ne (Ne.symm hi)]
theorem zf7:(swL l i j).Perm l:=by
 unfold swL;split
 ·rename_i x y hx hy
  obtain⟨hi,rfl⟩:=List.getElem?_eq_some_iff.1 hx;obtain⟨hj,rfl⟩:=List.getElem?_eq_some_iff.1 hy;exact List.set_set_perm hi hj
 ·exact List.Perm.refl _
theorem UpI.start {x:Int}(h:HpB l l.length):UpI (l++[x]) l.length:=by
 refine⟨fun k a b hk hne ha hb=>?_,fun k a b _ hk hp ha hb=>?_⟩
 ·have hl:=(List.getElem?_eq_some_iff.1 hb).1
  rw[List.length_append] at hl;simp at hl;rw[List.getElem?_append_left (by omega)] at ha hb;exact h k a b hk (by omega) ha hb
 ·have hl:=(List.getElem?_eq_some_iff.1 hb).1
  rw[List.length_append] at hl;simp at hl;omega
theorem UpI.top (h:UpI l 0):HpB l l.length:=fun k a b hk _ ha hb=>h.1 k a b hk (by omega) ha hb
theorem UpI.stop (h:UpI l j)(hx:l[j]?=some x)(hy:l[(j-1)/2]?=some y)(hle:¬x<y):HpB l l.length:=fun k a b hk _ ha hb=>by
 by_cases e:k=j
 ·subst e
  rw[ha] at hy;rw[hb] at hx;cases hy;cases hx;omega
 ·exact h.1 k a b hk e ha hb
theorem UpI.step (h:UpI l j)(h0:0<j)(hx:l[j]?=some x)(hy:l[(j-1)/2]?=some y)(hlt:x<y):UpI (swL l ((j-1)/2) j) ((j-1)/2):=by
 have hpj:(j-1)/2<j:=by omega
 have gi:=swL_i hy hx;have gj:=swL_j hy hx;have go:∀k,k≠(j-1)/2->k≠j->(swL l ((j-1)/2) j)[k]?=l[k]?:=fun k a b=>zdl hy hx a b
 refine⟨fun k a b hk hne ha hb=>?_,fun k a b hp0 hk hp ha hb=>?_⟩
 ·by_cases e:k=j
  ·subst e
   rw[gi] at ha;rw[gj] at hb;cases ha;cases hb;omega
  ·rw[go k hne e] at hb
   by_cases e1:(k-1)/2=(j-1)/2
   ·rw[e1,gi] at ha
    cases ha;have:=h.1 k y b hk e (by rw[e1];exact hy) hb;omega
   ·by_cases e2:(k-1)/2=j
    ·rw[e2,gj] at ha
     cases ha;exact h.2 k y b h0 hk e2 hy hb
    ·rw[go _ e1 e2] at ha
     exact h.1 k a b hk e ha hb
 ·have hpp:((j-1)/2-1)/2<(j-1)/2:=by omega
  rw[go _ (by omega) (by omega)] at ha;have h1:=h.1 ((j-1)/2) a y hp0 (by omega) ha hy;by_cases e:k=j
  ·subst e
   rw[gj] at hb;cases hb;exact h1
  ·rw[go k (by omega) e] at hb
   have:=h.1 k y b hk e (by rw[hp];exact hy) hb;omega
theorem HpB.least (h:HpB l n)(hn:n<=l.length)(hx:l[0]?=some x):∀(k:Nat) (y:Int),k<n->l[k]?=some y->x<=y:=by
 intro k
 induction k using Nat.strongRecOn with
 |_ k ih=>
  intro y hk hy;rcases Nat.eq_zero_or_pos k with rfl|h0
  ·rw[hx] at hy;cases hy;exact Int.le_refl _
  ·obtain⟨z,hz⟩:∃z,l[(k-1)/2]?=some z:=⟨_,List.getElem?_eq_getElem (by omega)⟩
   exact Int.le_trans (ih _ (by omega) z (by omega) hz) (h k z y h0 hk hz hy)
theorem DnI.start (h:HpB l (n+1))(hx:l[0]?=some x)(hy:l[n]?=some y):DnI (swL l 0 n) 0 n:=by
 refine⟨fun k a b hk hkn hp ha hb=>?_,fun k a b h0=>absurd h0 (Nat.lt_irrefl _)⟩;rw[zdl hx hy (by omega) (by omega)] at ha hb;exact h k a b hk (by omega) ha hb
theorem DnI.leaf (h:DnI l i n)(hn:n<=2*i+1):HpB l n:=fun k a b hk hkn ha hb=>h.1 k a b hk hkn (by omega) ha hb
theorem DnI.stop1 (h:DnI l i n)(hx:l[i]?=some x)(hy:l[2*i+1]?=some y)(hn:n<=2*i+2)(hle:¬y<x):HpB l n:=fun k a b hk hkn ha hb=>by
 by_cases e:(k-1)/2=i
 ·have:k=2*i+1:=by omega
  subst this;rw[e,hx] at ha;rw[hy] at hb;cases ha;cases hb;omega
 ·exact h.1 k a b hk hkn e ha hb
theorem DnI.stop2 {z m:Int}(h:DnI l i n)(hx:l[i]?=some x)(hy:l[2*i+1]?=some y)(hz:l[2*i+1+1]?=some z)(hm1:m<=y)(hm2:m<=z)(hle:¬m<x):HpB l n:=fun k a b hk hkn ha hb=>by
 by_cases e:(k-1)/2=i
 ·rw[e,hx] at ha
  cases ha;rcases(show k=2*i+1∨k=2*i+1+1 by omega) with rfl|rfl
  ·rw[hy] at hb;cases hb;omega
  ·rw[hz] at hb;cases hb;omega
 ·exact h.1 k a b hk hkn e ha hb
theorem DnI.step {c:Nat}{m:Int}(h:DnI l i n)(hx:l[i]?=some x)(hm:l[c]?=some m)(hcn:c<n)(hci:(c-1)/2=i)(hc0:0<c)(hlt:m<x)(hmin:∀(k:Nat) (y:Int),0<k->k<n->(k-1)/2=i->l[k]?=some y->m<=y):DnI (swL l i c) c n:=by
 have hic:i<c:=by omega
 have gi:=swL_i hx hm;have gc:=swL_j hx hm;have go:∀k,k≠i->k≠c->(swL l i c)[k]?=l[k]?:=fun k a b=>zdl hx hm a b
 refine⟨fun k a b hk hkn hp ha hb=>?_,fun k a b h0 hk hkn hp ha hb=>?_⟩
 ·by_cases e:(k-1)/2=i
  ·rw[e,gi] at ha
   cases ha;by_cases e1:k=c
   ·subst e1
    rw[gc] at hb;cases hb;omega
   ·rw[go k (by omega) e1] at hb
    exact hmin k b hk hkn e hb
  ·rw[go _ e hp] at ha
   by_cases e1:k=i
   ·subst e1
    rw[gi] at hb;cases hb;exact h.2 c a m hk hc0 hcn hci ha hm
   ·by_cases e2:k=c
    ·subst e2;omega
    ·rw[go k e1 e2] at hb
     exact h.1 k a b hk hkn e ha hb
 ·rw[hci,gi] at ha
  cases ha;rw[go k (by omega) (by omega)] at hb;exact h.1 k m b hk hkn (by omega) (by rw[hp];exact hm) hb
theorem DnI.step1 (h:DnI l i n)(hx:l[i]?=some x)(hy:l[2*i+1]?=some y)(h1:2*i+1<n)(hn:n<=2*i+2)(hlt:y<x):DnI (swL l i (2*i+1)) (2*i+1) n:=
 h.step hx hy h1 (by omega) (by omega) hlt fun k b hk hkn hp hb=>by
  have:k=2*i+1:=by omega
  subst this;rw[hy] at hb;cases hb;omega
theorem DnI.stepL {z:Int}(h:DnI l i n)(hx:l[i]?=some x)(hy:l[2*i+1]?=some y)(hz:l[2*i+1+1]?=some z)(h1:2*i+1<n)(hyz:¬z<y)(hlt:y<x):DnI (swL l i (2*i+1)) (2*i+1) n:=
 h.step hx hy h1 (by omega) (by omega) hlt fun k b hk hkn hp hb=>by
  rcases(show k=2*i+1∨k=2*i+1+1 by omega) with rfl|rfl
  ·rw[hy] at hb;cases hb;omega
  ·rw[hz] at hb;cases hb;omega
theorem DnI.stepR {z:Int}(h:DnI l i n)(hx:l[i]?=some x)(hy:l[2*i+1]?=some y)(hz:l[2*i+1+1]?=some z)(h1:2*i+1+1<n)(hyz:z<y)(hlt:z<x):DnI (swL l i (2*i+1+1)) (2*i+1+1) n:=
 h.step hx hz h1 (by omega) (by omega) hlt fun k b hk hkn hp hb=>by
  rcases(show k=2*i+1∨k=2*i+1+1 by omega) with rfl|rfl
  ·rw[hy] at hb;cases hb;omega
  ·rw[hz] at hb;cases hb;omega
theorem HpB.part (h:HpB l n){m:List Int}(hm:m=l.take n):HpB m m.length:=fun k a b hk hkl ha hb=>by
 subst hm;rw[List.length_take] at hkl;rw[List.getElem?_take_of_lt (by omega)] at ha hb;exact h k a b hk (by omega) ha hb
theorem HpB.nil:HpB [] 0:=fun _ _ _ _ h=>absurd h (Nat.not_lt_zero _)
end
section
open Go.RowKit
theorem z01 (s:String)(B:Nat)(w:World):(receiverAt 68 (.val (.pointer (some ⟨B,0,none⟩))) false (some s)).run Tryz.prog w=(loadVar 66 ⟨B,0,none⟩).run Tryz.prog w:=by kernel_rfl
theorem zie {nm:String}{f:FuncId}(hm:(Tryz.prog.info? 68).map (fun i=>(i.methods.find? (·.name == nm)).map (fun m=>(m.path,m.func)))=some (some (#[],some (f,false))))(k B:Nat)(w:World)(v:Value)(h:(loadVar 66 ⟨B,0,none⟩).run Tryz.prog w=.ok v w) :
  (Go.method (k+1) 68 (.pointer (some ⟨B,0,none⟩)) nm).run Tryz.prog w=.ok (f,v) w:=by
 cases hi:Tryz.prog.info? 68 with
 |none=>rw[hi] at hm;simp at hm
 |some i=>
  rw[hi] at hm;simp at hm;obtain⟨m,hf,hp,hfn⟩:=hm;unfold Go.method;simp[typeInfo,hi,hf,hp,hfn,follow,z01,h,Sem.run_bind]
theorem zll {B:Nat}{w:World}{a:Option Addr}{n c:Nat}(h:w.cell? ⟨B,0,none⟩=some (.slice a n c)):(loadVar 66 ⟨B,0,none⟩).run Tryz.prog w=.ok (.slice a n c) w:=by
 simp[go_sem,loadVar,h]
theorem zwi (B:Nat)(w:World)(a:Option Addr)(n c:Nat)(h:w.cell? ⟨B,0,none⟩=some (.slice a n c)):(Go.method 353 68 (.pointer (some ⟨B,0,none⟩)) "Len").run Tryz.prog w=.ok (42,.slice a n c) w :=
 zie (by kernel_rfl) _ B w _ (zll h)
theorem zey (B:Nat)(w:World)(a:Option Addr)(n c:Nat)(h:w.cell? ⟨B,0,none⟩=some (.slice a n c)):(Go.method 353 68 (.pointer (some ⟨B,0,none⟩)) "Less").run Tryz.prog w=.ok (220,.slice a n c) w :=
 zie (by kernel_rfl) _ B w _ (zll h)
theorem zc9 (B:Nat)(w:World)(a:Option Addr)(n c:Nat)(h:w.cell? ⟨B,0,none⟩=some (.slice a n c)):(Go.method 353 68 (.pointer (some ⟨B,0,none⟩)) "Swap").run Tryz.prog w=.ok (221,.slice a n c) w :=
 zie (by kernel_rfl) _ B w _ (zll h)
theorem z02 (B:Nat)(w:World):(Go.method 353 68 (.pointer (some ⟨B,0,none⟩)) "Push").run Tryz.prog w=.ok (223,.pointer (some ⟨B,0,none⟩)) w:=by kernel_rfl
theorem z5s (B:Nat)(w:World):(Go.method 353 68 (.pointer (some ⟨B,0,none⟩)) "Pop").run Tryz.prog w=.ok (222,.pointer (some ⟨B,0,none⟩)) w:=by kernel_rfl
theorem zwj (args:Array Value)(w:World):(callFunc 42 args).run Tryz.prog w=.ok (.enter 42 args) w:=MuLone.run_callFunc_enter Tryz.func42 (by kernel_rfl) rfl args w
theorem zrf (args:Array Value)(w:World):(callFunc 220 args).run Tryz.prog w=.ok (.enter 220 args) w:=MuLone.run_callFunc_enter Tryz.func220 (by kernel_rfl) rfl args w
theorem zlm (args:Array Value)(w:World):(callFunc 221 args).run Tryz.prog w=.ok (.enter 221 args) w:=MuLone.run_callFunc_enter Tryz.func221 (by kernel_rfl) rfl args w
theorem z03 (args:Array Value)(w:World):(callFunc 223 args).run Tryz.prog w=.ok (.enter 223 args) w:=MuLone.run_callFunc_enter Tryz.func223 (by kernel_rfl) rfl args w
theorem z5t (args:Array Value)(w:World):(callFunc 222 args).run Tryz.prog w=.ok (.enter 222 args) w:=MuLone.run_callFunc_enter Tryz.func222 (by kernel_rfl) rfl args w
def QK (B:Nat)(w w':World):Prop:=∀v,Bl w B 66 #[v]->(w'.os=w.os/\w'.tape=w.tape/\w'.output=w.output/\w.heap.size<=w'.heap.size)/\(∃v',Bl w' B 66 #[v']/\(v'.ownBlock=v.ownBlock∨∀g,v'.ownBlock=some g->w.heap.size<=g))/\∀k,k<w.heap.size->k≠B->v.ownBlock≠some k->w'.heap[k]?=w.heap[k]?
section
variable {B g o:Nat} {w w1 w2 w5 w':World} {v v5:Value}
theorem QK.trans (h:QK B w w1)(k:QK B w1 w2):QK B w w2:=fun v hv=>by
 obtain⟨⟨a1,a2,a3,a4⟩,⟨v1,hv1,hn1⟩,hk1⟩:=h v hv;obtain⟨⟨b1,b2,b3,b4⟩,⟨v2,hv2,hn2⟩,hk2⟩:=k v1 hv1;refine⟨⟨b1.trans a1,b2.trans a2,b3.trans a3,Nat.le_trans a4 b4⟩,⟨v2,hv2,?_⟩,fun j hj hjB hjv=>?_⟩
 ·rcases hn2 with e|e
  ·rw[e];exact hn1
  ·exact .inr fun g hg=>Nat.le_trans a4 (e g hg)
 ·refine(hk2 j (Nat.lt_of_lt_of_le hj a4) hjB fun e=>?_).trans (hk1 j hj hjB hjv)
  rcases hn1 with f|f
  ·exact hjv (f.symm.trans e)
  ·have:=f j e;omega
theorem QK.of_below (hb:Below w.heap.size w w'):QK B w w':=fun v hv=>⟨⟨hb.os,hb.tape,hb.output,hb.size⟩,⟨v,hv.below hb,.inl rfl⟩,fun k hk _ _=>hb.block k hk⟩
theorem QK.row (hB:Bl w B 66 #[v])(hne:B≠g)(hv:v.ownBlock=some g)(o:Nat)(u:Value):QK B w (w.setCell ⟨g,o,none⟩ u):=fun x hx=>by
 have e:x=v:=by
  unfold Bl at hx hB;rw[hx] at hB;injection hB with h;injection h with h;injection h with h;injection h
 subst e;have hb:Below 0 w (w.setCell ⟨g,o,none⟩ u):=(Below.refl 0 w).setCell (p:=⟨g,o,none⟩) (Nat.zero_le _) u;refine⟨⟨hb.os,hb.tape,hb.output,hb.size⟩,⟨x,hB.other (o:=o) hne u,.inl rfl⟩,fun k hk _ hkv=>heap_setCell_other _ _ _ _ fun e=>hkv (by rw[hv,e])⟩
theorem QK.cell {v':Value}(hB:Bl w B 66 #[v])(h:v'.ownBlock=v.ownBlock∨∀g,v'.ownBlock=some g->w.heap.size<=g):QK B w (w.setCell ⟨B,0,none⟩ v'):=fun x hx=>by
 have e:x=v:=by
  unfold Bl at hx hB;rw[hx] at hB;injection hB with h;injection h with h;injection h with h;injection h
 subst e;have hb:Below 0 w (w.setCell ⟨B,0,none⟩ v'):=(Below.refl 0 w).setCell (p:=⟨B,0,none⟩) (Nat.zero_le _) v';exact⟨⟨hb.os,hb.tape,hb.output,hb.size⟩,⟨v',hB.set v',h⟩,fun k hk hkB _=>heap_setCell_other _ _ _ _ hkB⟩
theorem QK.push (hq:Bl w B 66 #[v])(hb:Below w.heap.size w w1)(hg:w1.grownBy w5 v.ownBlock)(hx:Bl w5 B 66 #[v])(hat:v5.ownBlock=v.ownBlock∨v5.ownBlock=some w1.heap.size):QK B w (w5.setCell ⟨B,0,none⟩ v5):=fun x hxx=>by
 have e:x=v:=by
  unfold Bl at hxx hq;rw[hxx] at hq;injection hq with h;injection h with h;injection h with h;injection h
 subst e;have h5:Below 0 w5 (w5.setCell ⟨B,0,none⟩ v5):=(Below.refl 0 w5).setCell (p:=⟨B,0,none⟩) (Nat.zero_le _) v5;refine⟨⟨h5.os.trans (hg.os.trans hb.os),h5.tape.trans (hg.tape.trans hb.tape),h5.output.trans (hg.output.trans hb.output),Nat.le_trans hb.size (Nat.le_trans hg.size h5.size)⟩,⟨v5,hx.set v5,hat.imp id fun e g hgb=>?_⟩,fun k hk hkB hkv=>?_⟩
 ·rw[e] at hgb
  injection hgb with hgb;have:=hb.size;omega
 ·rw[heap_setCell_other _ _ _ _ hkB]
  exact(hg.block k (Nat.lt_of_lt_of_le hk hb.size) fun e=>hkv e.symm).trans (hb.block k hk)
end
def LQAt (base B:Nat)(l:List Int)(w:World):Prop:=∃a cap,Bl w B 66 #[.slice a l.length cap]/\w.ownsRow base 3 1 (.slice a l.length cap) l.length (intsV l)
theorem LQAt.below {base B:Nat}{l:List Int}{w w':World}(h:LQAt base B l w)(hb:Below w.heap.size w w'):LQAt base B l w':=by
 obtain⟨a,cap,hB,hO⟩:=h;exact⟨a,cap,hB.below hb,zaa hO hb⟩
theorem LQAt.lt {base B:Nat}{l:List Int}{w:World}(h:LQAt base B l w):B<w.heap.size:=by
 obtain⟨a,cap,hB,hO⟩:=h;exact hB.lt
theorem zek (a:Option Addr)(n c:Nat)(w:World):Calls Tryz.prog 42 #[.slice a n c] w fun e w'=>e=.returned (.int .i64 (n:Int))/\w'=w:=by
 go_enter Tryz.func42,Tryz.ntmps42;go_wp2;go_ret;exact⟨rfl,rfl⟩
theorem zjp (g n c i j:Nat)(x y:Int)(w:World)(hi:i<n)(hj:j<n)(hx:w.cell? ⟨g,i,none⟩=some (.int .i64 x))(hy:w.cell? ⟨g,j,none⟩=some (.int .i64 y)) :
  Calls Tryz.prog 220 #[.slice (some ⟨g,0,none⟩) n c,.int .i64 (i:Int),.int .i64 (j:Int)] w fun e w'=>e=.returned (.bool (decide (x<y)))/\Below w.heap.size w w':=by
 have k1:(i:Int)<(n:Int):=by omega
 have k2:(j:Int)<(n:Int):=by omega
 go_enter Tryz.func220,Tryz.ntmps220;go_wp2;go_quiet (fail);go_wp2;go_ret;exact⟨rfl,by first|exact zak (Below.refl _ _)|exact(Below.refl _ _).drew|exact Below.refl _ _⟩
theorem z04 {base B g i j c:Nat}{l:List Int}{x y:Int}{w:World}(hB:Bl w B 66 #[.slice (some ⟨g,0,none⟩) l.length c])(hO:w.ownsRow base 3 1 (.slice (some ⟨g,0,none⟩) l.length c) l.length (intsV l))(hx:l[i]?=some x)(hy:l[j]?=some y) :
  LQAt base B (swL l i j) ((w.setCell ⟨g,i,none⟩ (.int .i64 y)).setCell ⟨g,j,none⟩ (.int .i64 x))/\QK B w ((w.setCell ⟨g,i,none⟩ (.int .i64 y)).setCell ⟨g,j,none⟩ (.int .i64 x)):=by
 rw[zre hx hy];obtain⟨hi,rfl⟩:=List.getElem?_eq_some_iff.1 hx;obtain⟨hj,rfl⟩:=List.getElem?_eq_some_iff.1 hy;have hne:B≠g:=by
  intro e;subst e;exact za9 hO ⟨_,_,hB⟩ (by decide) rfl
 have h1:=zgk (j:=i) hO (.int .i64 l[j]);have h2:=zgk (j:=j) h1 (.int .i64 l[i]);rw[<-zf0,<-zf0] at h2;have hb2:=(hB.other (o:=i) hne (.int .i64 l[j])).other (o:=j) hne (.int .i64 l[i]);refine⟨⟨some ⟨g,0,none⟩,c,?_,?_⟩,(QK.row hB hne rfl i _).trans (QK.row (hB.other (o:=i) hne _) hne rfl j _)⟩
 ·rw[List.length_set,List.length_set];exact hb2
 ·rw[List.length_set,List.length_set];exact h2
theorem zdm (base B g c i j:Nat)(l:List Int)(w:World)(hB:Bl w B 66 #[.slice (some ⟨g,0,none⟩) l.length c])(hO:w.ownsRow base 3 1 (.slice (some ⟨g,0,none⟩) l.length c) l.length (intsV l))(hi:i<l.length)(hj:j<l.length) :
  Calls Tryz.prog 221 #[.slice (some ⟨g,0,none⟩) l.length c,.int .i64 (i:Int),.int .i64 (j:Int)] w fun e w'=>(∃v,e=.returned v)/\LQAt base B (swL l i j) w'/\QK B w w':=by
 obtain⟨x,hx⟩:∃x,l[i]?=some x:=⟨_,List.getElem?_eq_getElem hi⟩;obtain⟨y,hy⟩:∃y,l[j]?=some y:=⟨_,List.getElem?_eq_getElem hj⟩;obtain⟨g',e,-,hc,hf⟩:=zan hO (by omega);injection e with e;injection e with e;subst e;have cx:=hc i (.int .i64 x) (by unfold intsV;rw[List.getElem?_map,hx];rfl);have cy:=hc j (.int .i64 y) (by unfold intsV;rw[List.getElem?_map,hy];rfl);have fx:=hf i;have fy:=hf j;have k1:(i:Int)<(l.length:Int):=by omega
 have k2:(j:Int)<(l.length:Int):=by omega
 have H1:=Lib.hid (z04 (w:=w) (i:=i) (j:=j) hB hO hx hy);have c3:(w.setCell ⟨g,i,none⟩ (.int .i64 y)).cell? ⟨g,j,none⟩=some (.int .i64 y):=zeu cx cy;have c4:(w.setCell ⟨g,j,none⟩ (.int .i64 x)).cell? ⟨g,i,none⟩=some (.int .i64 x):=zeu cy cx;clear hB hO hc hf hx hy hi hj;go_enter Tryz.func221,Tryz.ntmps221;go_wp2
 go_region
 go_wp2
 go_end0
 exact⟨⟨_,rfl⟩,H1.out.1.below (Below.refl _ _).drew,H1.out.2.trans (QK.of_below (Below.refl _ _).drew)⟩
def HeapQ (base B:Nat)(l:List Int)(w w':World):Prop:=∃m,LQAt base B m w'/\HpB m m.length/\m.Perm l/\QK B w w'
theorem zwk (base B:Nat)(l:List Int)(x:Int)(w:World)(hQ:LQAt base B (l++[x]) w)(hl:l.length<=1000000) :
  Calls Tryz.prog 222 #[.pointer (some ⟨B,0,none⟩)] w fun e w'=>e=.returned (.iface 3 (.int .i64 x))/\LQAt base B l w'/\QK B w w':=by
 obtain⟨a,cap,hB,hO⟩:=hQ;have hlen:(l++[x]).length=l.length+1:=by simp
 rw[hlen] at hB hO;obtain⟨g,rfl,-,hc,hf⟩:=zan hO (by omega);have cx:=hc l.length (.int .i64 x) (by unfold intsV;rw[List.getElem?_map,List.getElem?_append_right (Nat.le_refl _),Nat.sub_self];rfl);have b0:w.cell? ⟨B,0,none⟩=some (.slice (some ⟨g,0,none⟩) (l.length+1) cap):=hB.cell (o:=0) rfl;have fb:=hB.free 0;have ew:IntKind.i64.wrap ((l.length:Int)+1-1)=(l.length:Int):=by rw[show(l.length:Int)+1-1=(l.length:Int) by omega];exact IntWalk.i64_in _ (by omega)
 have hcut:=zcy hO (k:=l.length) (by omega);have hcap:l.length+1<=cap:=by
  obtain⟨a1,c1,he,h,-⟩:=zbj hO;injection he with _ _ e3;omega
 have HB:=Lib.hid hB;rw[zbb,List.take_left' (zef l)] at hcut;have HC:=Lib.hid (ownsRow_setCell_other hcut (a:=⟨B,0,none⟩) (za9 hcut ⟨_,_,hB⟩ (by decide)) (.slice (some ⟨g,0,none⟩) l.length cap));clear hB hO hcut hc hf;go_enter Tryz.func222,Tryz.ntmps222;go_wp2;go_ret;exact⟨rfl,⟨_,cap,HB.out.set _,HC.out⟩,QK.cell HB.out (.inl rfl)⟩
theorem zwl {base B c c5:Nat}{a a5:Option Addr}{l:List Int}{x:Int}{w w1 w5:World}(hO:w.ownsRow base 3 1 (.slice a l.length c) l.length (intsV l))(hb:Below w.heap.size w w1)
  (ho:w5.ownsRow base 3 1 (.slice a5 (l.length+1) c5) (l.length+1) (intsV l++[.int .i64 x])) (hg:w1.grownBy w5 (Value.slice a l.length c).ownBlock) (hx:Bl w5 B 66 #[.slice a l.length c]) (hq:Bl w B 66 #[.slice a l.length c]) (hat:(Value.slice a5 (l.length+1) c5).ownBlock=(Value.slice a l.length c).ownBlock∨(Value.slice a5 (l.length+1) c5).ownBlock=some w1.heap.size) :
  LQAt base B (l++[x]) (w5.setCell ⟨B,0,none⟩ (.slice a5 (l.length+1) c5))/\QK B w (w5.setCell ⟨B,0,none⟩ (.slice a5 (l.length+1) c5)):=by
 have h1:=ownsRow_setCell_other ho (a:=⟨B,0,none⟩) (za9 ho ⟨_,_,hx⟩ (by decide)) (.slice a5 (l.length+1) c5);have e:intsV (l++[x])=intsV l++[.int .i64 x]:=by unfold intsV;rw[List.map_append];rfl
 have h2:=zaa hO hb;refine⟨⟨a5,c5,?_,?_⟩,QK.push hq hb hg hx hat⟩
 ·rw[List.length_append];exact hx.set _
 ·rw[List.length_append,e];exact h1
theorem zs9 (base B:Nat)(l:List Int)(x:Int)(w:World)(hQ:LQAt base B l w)(hl:l.length<=1000000)(hbs:base<=w.heap.size) :
  Calls Tryz.prog 223 #[.pointer (some ⟨B,0,none⟩),.iface 3 (.int .i64 x)] w fun e w'=>(∃v,e=.returned v)/\LQAt base B (l++[x]) w'/\QK B w w':=by
 obtain⟨a,cap,hB,hO⟩:=hQ;obtain⟨ii,hii,hz0,hz1,hz2⟩:=info_parts za3;have b0:w.cell? ⟨B,0,none⟩=some (.slice a l.length cap):=hB.cell (o:=0) rfl;have fb:=hB.free 0;have lb:=hB.lt;have hta:=zet x;have HB:=Lib.hid hB;have HO:=Lib.hid hO;clear hB hO;go_enter Tryz.func223,Tryz.ntmps223;go_wp2
 go_region_law (refine zaw (by rfl) _ _ 66 (by rfl) base 3 ii _ 1 8 Tryz.underlying66 hii hz0 hz1 hz2 (by rfl) (by decide) (.slice a l.length cap) l.length _ (by simp[Act.eval]) (by refine zaa HO.out ?_;repeat (first|exact Below.refl _ _|refine Below.drew ?_|refine zae ?_ rfl _)) _ 1 1 [.int .i64 x] (by simp[Act.eval];rfl) (by rfl) (by refine Bl.news (t:=3) ?_;repeat (first|(refine Bl.new' ?_;simp;done)|refine Bl.drew ?_|refine Bl.past ?_)) (by simp[Value.oneCell']) (by unfold maxLen;omega) (by omega) (by simp;omega) ?_;intro a5 c5 w5 hown5 hgrow5 hat5;have hbw5:Hid (Below w.heap.size w (w.alloc (.cells #[.int .i64 x] 3)).drew):=Lib.hid (Below.drew (zae (Below.refl _ _) rfl _));have hg5:=(HB.out.below hbw5.out).grown hgrow5 (fun g e=>by obtain⟨c,fz,hc⟩:=Lib.ownsRow_kind (zaa HO.out hbw5.out) g e;exact⟨c,3,fz,hc,by decide⟩);have x0:=hg5.cell (o:=0) rfl;have xf:=hg5.free;have HO5:=Lib.hid hown5;have HG5:=Lib.hid hgrow5;have HX5:=Lib.hid hg5;have HT5:=Lib.hid hat5;clear hown5 hgrow5 hat5 hg5)
 all_goals
  go_wp2
  go_end0
  exact⟨⟨_,rfl⟩,zwl HO.out hbw5.out HO5.out HG5.out HX5.out HB.out HT5.out⟩
theorem z5u (base B:Nat)(l:List Int)(j:Nat)(w:World)(hQ:LQAt base B l w)(hI:UpI l j)(hj:j<l.length)(hl:l.length<=1000000) :
  Calls Tryz.prog 71 #[.iface 68 (.pointer (some ⟨B,0,none⟩)),.int .i64 (j:Int)] w fun e w'=>(∃v,e=.returned v)/\HeapQ base B l w w':=by
 go_enter Tryz.func71,Tryz.ntmps71;go_wp2
 go_loopw [1] (fun c wr=>∃(l':List Int) (j:Nat),c=.int .i64 (j:Int)/\LQAt base B l' wr/\l'.Perm l/\UpI l' j/\j<l'.length/\QK B w wr) (fun c _=>(intOf c).toNat)
 case atStart=>exact⟨l,j,rfl,hQ,List.Perm.refl _,hI,hj,QK.of_below (Below.refl _ _)⟩
 case round=>
  obtain⟨m,i,rfl,hQm,hpm,hum,him,hkm⟩:=hrel;have HU:=Lib.hid hum;clear hum;have hml:m.length<=1000000:=by rw[hpm.length_eq];exact hl
  obtain⟨a,cap,hB,hO⟩:=id hQm;obtain⟨g,rfl,-,hc,-⟩:=zan hO (by omega);have b0:wr.cell? ⟨B,0,none⟩=some (.slice (some ⟨g,0,none⟩) m.length cap):=hB.cell (o:=0) rfl;have m1:=zey B wr _ _ _ b0;have q1:=zrf;have HK:=Lib.hid hkm;have HP:=Lib.hid hpm;have HB:=Lib.hid hB;have HO:=Lib.hid hO;have HQ:=Lib.hid hQm;by_cases h0:i=0
  ·subst h0
   clear hkm hpm hB hO hQm hc;go_wp2
   go_end0
   exact⟨⟨_,rfl⟩,_,HQ.out,HU.out.top,HP.out,HK.out⟩
  ·obtain⟨p,hp⟩:∃p:Nat,((i:Int)-1)/2=(p:Int):=⟨(i-1)/2,by omega⟩
   have hpi:p<i:=by omega
   obtain⟨x,hx⟩:∃x,m[i]?=some x:=⟨_,List.getElem?_eq_getElem him⟩;obtain⟨y,hy⟩:∃y,m[p]?=some y:=⟨_,List.getElem?_eq_getElem (by omega)⟩;have hpe:p=(i-1)/2:=by omega
   have HX:=Lib.hid hx;have HY:=Lib.hid (show m[(i-1)/2]?=some y by rw[<-hpe];exact hy);have HPE:=Lib.hid hpe;clear hpe;have HC:=Lib.hid (zjp g m.length cap i p x y wr him (by omega) (hc i _ (by unfold intsV;rw[List.getElem?_map,hx];rfl)) (hc p _ (by unfold intsV;rw[List.getElem?_map,hy];rfl)));have k1:((p:Int) == (i:Int))=false:=by rw[beq_eq_false_iff_ne];omega
   clear hkm hpm hB hO hQm hc hx hy;cases hxy:decide (x<y) with
   |false=>
    rw[hxy] at HC
    go_wp2_with (go_at_call 220;(with_reducible refine HC.out.mono ?_);rintro e w2 ⟨rfl,hb⟩;have HB2:=Lib.hid hb;clear hb)
    go_end0
    exact⟨⟨_,rfl⟩,_,HQ.out.below HB2.out,HU.out.stop HX.out HY.out (of_decide_eq_false hxy),HP.out,HK.out.trans (QK.of_below HB2.out)⟩
   |true=>
    rw[hxy] at HC
    go_wp2_with (first
     |(go_at_call 220;(with_reducible refine HC.out.mono ?_);rintro e w2 ⟨rfl,hb⟩;have HB2:=Lib.hid (HB.out.below hb);have HO2:=Lib.hid (zaa HO.out hb);have HK2:=Lib.hid (HK.out.trans (QK.of_below hb));have b2:w2.cell? ⟨B,0,none⟩=some (.slice (some ⟨g,0,none⟩) m.length cap):=HB2.out.cell (o:=0) rfl;have m2:=zc9 B w2 _ _ _ b2;have q2:=zlm;clear hb)
     |(go_at_call 221;(with_reducible refine(zdm base B g cap p i m _ HB2.out HO2.out (by omega) him).mono ?_);rintro e w3 ⟨⟨v3,rfl⟩,hp3⟩;have HP3:=Lib.hid hp3;clear hp3))
    obtain⟨h1,h3⟩:=HP3.out;have hst:=HU.out.step (by omega) HX.out HY.out (of_decide_eq_true hxy);rw[<-HPE.out] at hst;exact⟨⟨_,p,rfl,h1,zf7.trans HP.out,hst,by rw[zid];omega,HK2.out.trans h3⟩,by simp[intOf];omega⟩
theorem zbl (base g cap i j:Nat)(m:List Int)(x y:Int)(b:Bool)(W:World)(hO:W.ownsRow base 3 1 (.slice (some ⟨g,0,none⟩) m.length cap) m.length (intsV m))(hx:m[i]?=some x)(hy:m[j]?=some y)(hb:decide (x<y)=b) :
  Calls Tryz.prog 220 #[.slice (some ⟨g,0,none⟩) m.length cap,.int .i64 (i:Int),.int .i64 (j:Int)] W fun e w'=>e=.returned (.bool b)/\Below W.heap.size W w':=by
 have hi:=(List.getElem?_eq_some_iff.1 hx).1;have hj:=(List.getElem?_eq_some_iff.1 hy).1;obtain⟨g',e,-,hc,-⟩:=zan hO (by omega);injection e with e;injection e with e;subst e;subst hb;exact zjp g m.length cap i j x y W hi hj (hc i _ (by unfold intsV;rw[List.getElem?_map,hx];rfl)) (hc j _ (by unfold intsV;rw[List.getElem?_map,hy];rfl))
def HeapD (base B n:Nat)(l:List Int)(w w':World):Prop:=∃m,LQAt base B m w'/\HpB m n/\(∀k,n<=k->m[k]?=l[k]?)/\m.Perm l/\QK B w w'
def LQO (base B g cap:Nat)(m:List Int)(w W:World):Prop:=Bl W B 66 #[.slice (some ⟨g,0,none⟩) m.length cap]/\W.ownsRow base 3 1 (.slice (some ⟨g,0,none⟩) m.length cap) m.length (intsV m)/\QK B w W
theorem LQO.below {base B g cap:Nat}{m:List Int}{w W W':World}(h:LQO base B g cap m w W)(hb:Below W.heap.size W W'):LQO base B g cap m w W':=⟨h.1.below hb,zaa h.2.1 hb,h.2.2.trans (QK.of_below hb)⟩
theorem LQO.bl {base B g cap:Nat}{m:List Int}{w W:World}(h:LQO base B g cap m w W):Bl W B 66 #[.slice (some ⟨g,0,none⟩) m.length cap]:=h.1
theorem LQO.cell {base B g cap:Nat}{m:List Int}{w W:World}(h:LQO base B g cap m w W):W.cell? ⟨B,0,none⟩=some (.slice (some ⟨g,0,none⟩) m.length cap):=h.1.cell (o:=0) rfl
theorem LQO.own {base B g cap:Nat}{m:List Int}{w W:World}(h:LQO base B g cap m w W):W.ownsRow base 3 1 (.slice (some ⟨g,0,none⟩) m.length cap) m.length (intsV m):=h.2.1
theorem LQO.kp {base B g cap:Nat}{m:List Int}{w W:World}(h:LQO base B g cap m w W):QK B w W:=h.2.2
theorem LQO.q {base B g cap:Nat}{m:List Int}{w W:World}(h:LQO base B g cap m w W):LQAt base B m W:=⟨_,cap,h.1,h.2.1⟩
theorem LQO.open {base B:Nat}{m:List Int}{w W:World}(h:LQAt base B m W)(hk:QK B w W)(hm:0<m.length):∃g cap,LQO base B g cap m w W:=by
 obtain⟨a,cap,hB,hO⟩:=h;obtain⟨g,rfl,-⟩:=zan hO hm;exact⟨g,cap,hB,hO,hk⟩
end
section
open Go.RowKit
theorem zwm (base B n:Nat)(l:List Int)(w:World)(hQ:LQAt base B l w)(hD:DnI l 0 n)(hn:n<=l.length)(hn0:0<l.length)(hl:l.length<=1000000) :
  Calls Tryz.prog 72 #[.iface 68 (.pointer (some ⟨B,0,none⟩)),.int .i64 0,.int .i64 (n:Int)] w fun e w'=>(∃v,e=.returned v)/\HeapD base B n l w w':=by
 go_enter Tryz.func72,Tryz.ntmps72;go_wp2
 go_loopw [7] (fun c wr=>∃(m:List Int) (j:Nat),c=.int .i64 (j:Int)/\LQAt base B m wr/\m.Perm l/\DnI m j n/\(∀k,n<=k->m[k]?=l[k]?)/\j<m.length/\QK B w wr) (fun c _=>l.length-(intOf c).toNat)
 case atStart=>exact⟨l,0,rfl,hQ,List.Perm.refl _,hD,fun _ _=>rfl,hn0,QK.of_below (Below.refl _ _)⟩
 case round=>
  obtain⟨m,i,rfl,hQm,hpm,hdm,htm,him,hkm⟩:=hrel;have HD:=Lib.hid hdm;have HT:=Lib.hid htm;clear hdm htm;have hlen:=hpm.length_eq;obtain⟨g,cap,hqo⟩:=LQO.open hQm hkm (by omega);have b0:=hqo.cell;have HQ:=Lib.hid hqo;have HP:=Lib.hid hpm;have q1:=zrf;have q2:=zlm;have e1:(2:Int)*(i:Int)+1=((2*i+1:Nat):Int):=by omega
  obtain⟨p,hp⟩:∃p:Nat,p=2*i+1:=⟨_,rfl⟩;rw[<-hp] at e1;have w1:IntKind.i64.wrap ((2:Int)*(i:Int))=(2:Int)*(i:Int):=IntWalk.i64_in _ (by omega);have w2:IntKind.i64.wrap ((2:Int)*(i:Int)+1)=(p:Int):=by rw[e1];exact IntWalk.i64_in _ (by omega)
  have HIM:=Lib.hid him;have HLEN:=Lib.hid hlen;have HPI:=Lib.hid hp;clear hQm hkm hpm hqo hQ e1;by_cases h0:n<=p
  ·have k1:(n:Int)<=(p:Int):=by omega
   have HH:=Lib.hid (HD.out.leaf (by omega));clear him hlen hp h0;go_wp2;go_ret;exact⟨⟨_,rfl⟩,m,HQ.out.q,HH.out,HT.out,HP.out,HQ.out.kp⟩
  ·have k1:¬(n:Int)<=(p:Int):=by omega
   have k2:¬(p:Int)<0:=by omega
   have m1:=zey B wr _ _ _ b0;obtain⟨x,hx⟩:∃x,m[i]?=some x:=⟨_,List.getElem?_eq_getElem him⟩;obtain⟨y,hy⟩:∃y,m[p]?=some y:=⟨_,List.getElem?_eq_getElem (by omega)⟩;have e2:(p:Int)+1=((p+1:Nat):Int):=by omega
   obtain⟨r,hr⟩:∃r:Nat,r=p+1:=⟨_,rfl⟩;rw[<-hr] at e2;have w3:IntKind.i64.wrap ((p:Int)+1)=(r:Int):=by rw[e2];exact IntWalk.i64_in _ (by omega)
   clear e2;have HX:=Lib.hid hx;have HY:=Lib.hid hy;have HPL:=Lib.hid (show p<m.length by omega);have HRI:=Lib.hid hr;have HYY:=Lib.hid (show m[2*i+1]?=some y by rw[<-hp];exact hy);have HPN:=Lib.hid (show p<n by omega);by_cases h2:r<n
   ·have k3:(r:Int)<(n:Int):=by omega
    obtain⟨z,hz⟩:∃z,m[r]?=some z:=⟨_,List.getElem?_eq_getElem (by omega)⟩;have HZ:=Lib.hid hz;have HRL:=Lib.hid (show r<m.length by omega);have HZZ:=Lib.hid (show m[2*i+1+1]?=some z by rw[<-hp,<-hr];exact hz);have HRN:=Lib.hid (show r<n by omega);clear hz hx hy him hlen hp hr h0 h2;cases hzy:decide (z<y) with
    |true=>
     cases hc:decide (z<x) with
     |false=>
      go_wp2_with (first
       |(go_at_call 220;(with_reducible refine(zbl base g cap r p m z y true _ HQ.out.own HZ.out HY.out hzy).mono ?_);rintro e w5 ⟨rfl,hb⟩;have HQ2:=Lib.hid (HQ.out.below hb);have b2:=HQ2.out.cell;have m2:=zey B w5 _ _ _ b2;clear hb)
       |(go_at_call 220;(with_reducible refine(zbl base g cap r i m z x false _ HQ2.out.own HZ.out HX.out hc).mono ?_);rintro e w6 ⟨rfl,hb⟩;have HQ3:=Lib.hid (HQ2.out.below hb);have b3:=HQ3.out.cell;have m3:=zc9 B w6 _ _ _ b3;clear hb))
      go_ret;exact⟨⟨_,rfl⟩,m,HQ3.out.q,HD.out.stop2 HX.out HYY.out HZZ.out (Int.le_of_lt (of_decide_eq_true hzy)) (Int.le_refl _) (of_decide_eq_false hc),HT.out,HP.out,HQ3.out.kp⟩
     |true=>
      go_wp2_with (first
       |(go_at_call 220;(with_reducible refine(zbl base g cap r p m z y true _ HQ.out.own HZ.out HY.out hzy).mono ?_);rintro e w5 ⟨rfl,hb⟩;have HQ2:=Lib.hid (HQ.out.below hb);have b2:=HQ2.out.cell;have m2:=zey B w5 _ _ _ b2;clear hb)
       |(go_at_call 220;(with_reducible refine(zbl base g cap r i m z x true _ HQ2.out.own HZ.out HX.out hc).mono ?_);rintro e w6 ⟨rfl,hb⟩;have HQ3:=Lib.hid (HQ2.out.below hb);have b3:=HQ3.out.cell;have m3:=zc9 B w6 _ _ _ b3;clear hb)
       |(go_at_call 221;(with_reducible refine(zdm base B g cap i r m _ HQ3.out.bl HQ3.out.own HIM.out HRL.out).mono ?_);rintro e w7 ⟨⟨v7,rfl⟩,hp4⟩;have HP4:=Lib.hid hp4;clear hp4))
      obtain⟨g1,g3⟩:=HP4.out;have hst:=HD.out.stepR HX.out HYY.out HZZ.out (by have:=HRN.out;have:=HRI.out;have:=HPI.out;omega) (of_decide_eq_true hzy) (of_decide_eq_true hc);rw[<-HPI.out,<-HRI.out] at hst;exact⟨⟨_,r,rfl,g1,zf7.trans HP.out,hst,fun k hk=>(zdl HX.out HZ.out (by have:=HPN.out;have:=HPI.out;omega) (by have:=HPN.out;have:=HRN.out;omega)).trans (HT.out k hk),by rw[zid];exact HRL.out,HQ3.out.kp.trans g3⟩,by have:=HPI.out;have:=HRI.out;have:=HIM.out;have:=HLEN.out;simp[intOf];omega⟩
    |false=>
     cases hc:decide (y<x) with
     |false=>
      go_wp2_with (first
       |(go_at_call 220;(with_reducible refine(zbl base g cap r p m z y false _ HQ.out.own HZ.out HY.out hzy).mono ?_);rintro e w5 ⟨rfl,hb⟩;have HQ2:=Lib.hid (HQ.out.below hb);have b2:=HQ2.out.cell;have m2:=zey B w5 _ _ _ b2;clear hb)
       |(go_at_call 220;(with_reducible refine(zbl base g cap p i m y x false _ HQ2.out.own HY.out HX.out hc).mono ?_);rintro e w6 ⟨rfl,hb⟩;have HQ3:=Lib.hid (HQ2.out.below hb);have b3:=HQ3.out.cell;have m3:=zc9 B w6 _ _ _ b3;clear hb))
      go_ret;exact⟨⟨_,rfl⟩,m,HQ3.out.q,HD.out.stop2 HX.out HYY.out HZZ.out (Int.le_refl _) (Int.not_lt.1 (of_decide_eq_false hzy)) (of_decide_eq_false hc),HT.out,HP.out,HQ3.out.kp⟩
     |true=>
      go_wp2_with (first
       |(go_at_call 220;(with_reducible refine(zbl base g cap r p m z y false _ HQ.out.own HZ.out HY.out hzy).mono ?_);rintro e w5 ⟨rfl,hb⟩;have HQ2:=Lib.hid (HQ.out.below hb);have b2:=HQ2.out.cell;have m2:=zey B w5 _ _ _ b2;clear hb)
       |(go_at_call 220;(with_reducible refine(zbl base g cap p i m y x true _ HQ2.out.own HY.out HX.out hc).mono ?_);rintro e w6 ⟨rfl,hb⟩;have HQ3:=Lib.hid (HQ2.out.below hb);have b3:=HQ3.out.cell;have m3:=zc9 B w6 _ _ _ b3;clear hb)
       |(go_at_call 221;(with_reducible refine(zdm base B g cap i p m _ HQ3.out.bl HQ3.out.own HIM.out HPL.out).mono ?_);rintro e w7 ⟨⟨v7,rfl⟩,hp4⟩;have HP4:=Lib.hid hp4;clear hp4))
      obtain⟨g1,g3⟩:=HP4.out;have hst:=HD.out.stepL HX.out HYY.out HZZ.out (by have:=HPN.out;have:=HPI.out;omega) (of_decide_eq_false hzy) (of_decide_eq_true hc);rw[<-HPI.out] at hst;exact⟨⟨_,p,rfl,g1,zf7.trans HP.out,hst,fun k hk=>(zdl HX.out HY.out (by have:=HPN.out;have:=HPI.out;omega) (by have:=HPN.out;omega)).trans (HT.out k hk),by rw[zid];exact HPL.out,HQ3.out.kp.trans g3⟩,by have:=HPI.out;have:=HRI.out;have:=HIM.out;have:=HLEN.out;simp[intOf];omega⟩
   ·have k3:¬(r:Int)<(n:Int):=by omega
    clear hx hy him hlen hp hr h0 h2;cases hc:decide (y<x) with
    |false=>
     go_wp2_with (first
       |(go_at_call 220;(with_reducible refine(zbl base g cap p i m y x false _ HQ.out.own HY.out HX.out hc).mono ?_);rintro e w6 ⟨rfl,hb⟩;have HQ3:=Lib.hid (HQ.out.below hb);have b3:=HQ3.out.cell;have m3:=zc9 B w6 _ _ _ b3;clear hb))
     go_ret;exact⟨⟨_,rfl⟩,m,HQ3.out.q,HD.out.stop1 HX.out HYY.out (by have:=HPI.out;have:=HRI.out;omega) (of_decide_eq_false hc),HT.out,HP.out,HQ3.out.kp⟩
    |true=>
     go_wp2_with (first
       |(go_at_call 220;(with_reducible refine(zbl base g cap p i m y x true _ HQ.out.own HY.out HX.out hc).mono ?_);rintro e w6 ⟨rfl,hb⟩;have HQ3:=Lib.hid (HQ.out.below hb);have b3:=HQ3.out.cell;have m3:=zc9 B w6 _ _ _ b3;clear hb)
       |(go_at_call 221;(with_reducible refine(zdm base B g cap i p m _ HQ3.out.bl HQ3.out.own HIM.out HPL.out).mono ?_);rintro e w7 ⟨⟨v7,rfl⟩,hp4⟩;have HP4:=Lib.hid hp4;clear hp4))
     obtain⟨g1,g3⟩:=HP4.out;have hst:=HD.out.step1 HX.out HYY.out (by have:=HPN.out;have:=HPI.out;omega) (by have:=HPI.out;have:=HRI.out;omega) (of_decide_eq_true hc);rw[<-HPI.out] at hst;exact⟨⟨_,p,rfl,g1,zf7.trans HP.out,hst,fun k hk=>(zdl HX.out HY.out (by have:=HPN.out;have:=HPI.out;omega) (by have:=HPN.out;omega)).trans (HT.out k hk),by rw[zid];exact HPL.out,HQ3.out.kp.trans g3⟩,by have:=HPI.out;have:=HRI.out;have:=HIM.out;have:=HLEN.out;simp[intOf];omega⟩
end
section
open Go.RowKit
theorem zjq (base B:Nat)(l:List Int)(x:Int)(w:World)(hQ:LQAt base B l w)(hH:HpB l l.length)(hl:l.length<=900000)(hbs:base<=w.heap.size) :
  Calls Tryz.prog 41 #[.iface 68 (.pointer (some ⟨B,0,none⟩)),.iface 3 (.int .i64 x)] w fun e w'=>(∃v,e=.returned v)/\HeapQ base B (l++[x]) w w':=by
 have m1:=z02 B w;have q1:=z03;have q2:=zwj;have HC:=Lib.hid (zs9 base B l x w hQ (by omega) hbs);have hl2:(l++[x]).length=l.length+1:=by simp
 have HU:=Lib.hid (UpI.start (x:=x) hH);clear hQ hH;go_enter Tryz.func41,Tryz.ntmps41
 go_wp2_with (first
  |(go_at_call 223;(with_reducible refine HC.out.mono ?_);rintro e w2 ⟨⟨v2,rfl⟩,hq2,hk2⟩;have HK2:=Lib.hid hk2;have HQ2:=Lib.hid hq2;obtain⟨a2,c2,hB2,hO2⟩:=hq2;rw[hl2] at hB2;have b2:w2.cell? ⟨B,0,none⟩=some (.slice a2 (l.length+1) c2):=hB2.cell (o:=0) rfl;have m2:=zwi B w2 _ _ _ b2;have ew:IntKind.i64.wrap (((l.length+1:Nat):Int)-1)=(l.length:Int):=(by rw[show((l.length+1:Nat):Int)-1=(l.length:Int) by omega];exact IntWalk.i64_in _ (by omega));clear hB2 hO2 hk2)
  |(go_at_call 42;(with_reducible refine(zek _ _ _ _).mono ?_);rintro e w3 ⟨rfl,hw⟩;obtain rfl:=hw.symm;clear hw)
  |(go_at_call 71;(with_reducible refine(z5u base B (l++[x]) l.length _ HQ2.out HU.out (by rw[hl2];omega) (by rw[hl2];omega)).mono ?_);rintro e w4 ⟨⟨v4,rfl⟩,hp4⟩;have HP4:=Lib.hid hp4;clear hp4))
 go_end0
 obtain⟨m,h1,h2,h3,h4⟩:=HP4.out;exact⟨⟨_,rfl⟩,m,h1,h2,h3,HK2.out.trans h4⟩
def z3r (base B:Nat)(l:List Int)(w:World)(e:Ending)(w':World):Prop:=∃(x:Int) (m:List Int),e=.returned (.iface 3 (.int .i64 x))/\LQAt base B m w'/\HpB m m.length/\(m++[x]).Perm l/\(∀y,y ∈ m->x<=y)/\QK B w w'
theorem z5v {n:Nat}{l l2 l3 m:List Int}{x:Int}(hH:HpB l l.length)(hn:l.length=n+1)(h2:l2=swL l 0 n)(hD:HpB l3 n)(ht:∀k,n<=k->l3[k]?=l2[k]?)(hp:l3.Perm l2)(e:l3=m++[x]):HpB m m.length/\(m++[x]).Perm l/\∀y,y ∈ m->x<=y:=by
 subst h2;have hpl:l3.Perm l:=hp.trans zf7;have hl3:m.length=n:=by have:=hpl.length_eq;rw[e,List.length_append] at this;simp at this;omega
 have em:m=l3.take n:=by rw[e,<-hl3,List.take_left'];rfl
 refine⟨hD.part em,e ▸ hpl,fun y hy=>?_⟩;obtain⟨a,ha⟩:∃a,l[0]?=some a:=⟨_,List.getElem?_eq_getElem (by omega)⟩;obtain⟨b,hb⟩:∃b,l[n]?=some b:=⟨_,List.getElem?_eq_getElem (by omega)⟩;have hx:l3[n]?=some x:=by rw[e,List.getElem?_append_right (by omega),hl3,Nat.sub_self];rfl
 rw[ht n (Nat.le_refl _),swL_j ha hb] at hx;cases hx;have hyl:y ∈ l:=hpl.mem_iff.1 (by rw[e];exact List.mem_append_left _ hy);obtain⟨k,hk,ek⟩:=List.mem_iff_getElem.1 hyl;exact hH.least (Nat.le_refl _) ha k y hk (by rw[List.getElem?_eq_getElem hk,ek])
theorem LQAt.last {base B:Nat}{l:List Int}{w:World}(h:LQAt base B l w)(h0:0<l.length):∃m x,l=m++[x]/\LQAt base B (m++[x]) w:=by
 refine⟨l.dropLast,l.getLast (by intro e;rw[e] at h0;exact absurd h0 (Nat.lt_irrefl _)),?_,?_⟩
 ·rw[List.dropLast_concat_getLast]
 ·rw[List.dropLast_concat_getLast];exact h
theorem zwn (base B n:Nat)(l:List Int)(w:World)(hQ:LQAt base B l w)(hH:HpB l l.length)(hn:l.length=n+1)(hl:n<=900000) :
  Calls Tryz.prog 43 #[.iface 68 (.pointer (some ⟨B,0,none⟩))] w (z3r base B l w):=by
 obtain⟨g,cap,hqo⟩:=LQO.open hQ (QK.of_below (Below.refl _ _)) (by omega);have b0:=hqo.cell;have hb:=hqo.bl;have ho:=hqo.own;rw[hn] at b0;have m1:=zwi B w _ _ _ b0;have q1:=zwj;have q2:=zlm;have q3:=z5t;have ew:IntKind.i64.wrap (((n+1:Nat):Int)-1)=(n:Int):=by rw[show((n+1:Nat):Int)-1=(n:Int) by omega];exact IntWalk.i64_in _ (by omega)
 have m2:=zc9 B w _ _ _ b0;have HC:=Lib.hid (zdm base B g cap 0 n l w hb ho (by omega) (by omega));rw[hn,show((0:Nat):Int)=0 from rfl] at HC;have HN:=Lib.hid hn;have HH:=Lib.hid hH;obtain⟨a0,ha0⟩:∃a,l[0]?=some a:=⟨_,List.getElem?_eq_getElem (by omega)⟩;obtain⟨b0',hb0⟩:∃b,l[n]?=some b:=⟨_,List.getElem?_eq_getElem (by omega)⟩;have HDS:=Lib.hid (DnI.start (n:=n) (by rw[<-hn];exact hH) ha0 hb0);obtain⟨l2,hl2⟩:∃l2,swL l 0 n=l2:=⟨_,rfl⟩;rw[hl2] at HC HDS;have HE2:=Lib.hid hl2;have HL2:=Lib.hid (show l2.length=n+1 by rw[<-hl2,zid];exact hn);clear hQ hqo hb ho hn hH ha0 hb0 hl2;go_enter Tryz.func43,Tryz.ntmps43
 go_wp2_with (first
  |(go_at_call 42;(with_reducible refine(zek _ _ _ _).mono ?_);rintro e w1 ⟨rfl,hw⟩;obtain rfl:=hw.symm;clear hw)
  |(go_at_call 221;(with_reducible refine HC.out.mono ?_);rintro e w2 ⟨⟨v2,rfl⟩,hq2,hk2⟩;have HQ2:=Lib.hid hq2;have HK2:=Lib.hid hk2;clear hq2 hk2)
  |(go_at_call 72;(with_reducible refine(zwm base B n l2 _ HQ2.out HDS.out (by rw[HL2.out];omega) (by rw[HL2.out];omega) (by rw[HL2.out];omega)).mono ?_);rintro e w3 ⟨⟨v3,rfl⟩,l3,hq3,hd3,ht3,hp3,hk3⟩;have HL3:=Lib.hid (show l3.length=n+1 by rw[hp3.length_eq];exact HL2.out);obtain⟨m,x,hlx,hq4⟩:=hq3.last (by rw[HL3.out];omega);have HM:=Lib.hid (show m.length=n by have:=HL3.out;rw[hlx] at this;simpa using this);have HQ3:=Lib.hid hq4;have HP3:=Lib.hid (z5v HH.out HN.out HE2.out.symm hd3 ht3 hp3 hlx);have HK3:=Lib.hid (HK2.out.trans hk3);have m4:=z5s B w3;clear hq3 hd3 ht3 hp3 hk3 hq4 hlx)
  |(go_at_call 222;(with_reducible refine(zwk base B m x _ HQ3.out (by rw[HM.out];omega)).mono ?_);rintro e w4 ⟨rfl,hq5,hk5⟩;have HQ5:=Lib.hid hq5;have HK5:=Lib.hid (HK3.out.trans hk5);clear hq5 hk5))
 go_ret;exact⟨x,m,rfl,HQ5.out,HP3.out.1,HP3.out.2.1,HP3.out.2.2,HK5.out⟩
end
end Go.Proofs.YthhppmehhdlmnaaGreatDoor
