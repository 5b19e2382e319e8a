/- Layer 13: the reference's Recursive, given what its Cycle answers. Layer 13: how many lists the reference's search of a cycle makes. No walk. Layer 13: the refe -/
import Derived.Maps.AppendAt
import Derived.Deep.Cut
import Derived.Test.YthhppmehhdlmnaaGreatDoorPzA
import Derived.Test.YthhppmehhdlmnaaGreatDoorPzD
import Derived.Test.YthhppmehhdlmnaaGreatDoorPzLA
import Derived.Test.YthhppmehhdlmnaaGreatDoorPzLC
import Derived.Test.YthhppmehhdlmnaaGreatDoorPzLD
import Derived.Test.YthhppmehhdlmnaaGreatDoorPzLF
set_option maxRecDepth 100000
set_option maxHeartbeats 8000000
namespace Go.Proofs.YthhppmehhdlmnaaGreatDoor
section
open Go.RowKit
def GAt (cs:Nat->List Nat)(N gb:Nat)(W:World):Prop:=∀i,i<N->∃(a:Option Addr) (c:Nat),W.cell? ⟨gb,i,none⟩=some (.slice a (cs i).length c)/\IntsAt W (.slice a (cs i).length c) ((cs i).map fun k:Nat=>(k:Int))
theorem GAt.below {cs:Nat->List Nat}{N gb:Nat}{W W':World}(h:GAt cs N gb W)(hb:Below W.heap.size W W'):GAt cs N gb W':=fun i hi=>by
 obtain⟨a,c,h1,h2⟩:=h i hi;exact⟨a,c,by rw[(bcell hb).1 _ _ (zac h1)];exact h1,h2.kept hb (Nat.le_refl _)⟩
theorem GrIs.at {cs:Nat->List Nat}{N:Nat}{w w':World}{e:Ending}(hN:0<N)(h:GrIs cs N w e w'):∃gb cap,e=.returned (.slice (some ⟨gb,0,none⟩) N cap)/\GAt cs N gb w'/\Below w.heap.size w w':=by
 obtain⟨v,qs,rfl,hql,ho,hg,hb⟩:=h;rcases ho.2 with⟨-,h0⟩|⟨gb,cap,cur,rfl,-⟩
 ·omega
 refine⟨gb,cap,rfl,fun i hi=>?_,hb⟩;obtain⟨q,hq⟩:∃q,qs[i]?=some q:=⟨_,List.getElem?_eq_getElem (by omega)⟩;have h1:=hg i q hq;obtain⟨a,c,rfl⟩:=zad h1;have h2:=ho.cells rfl i _ hq;rw[Addr.add_lit,Nat.zero_add] at h2;exact⟨a,c,h2,IntsAt.of_own (base:=w.heap.size) (by rw[List.length_map];exact h1)⟩
def RCyIs (cs:Nat->List Nat)(N:Nat):Prop:=∀(W:World) (gb cap r:Nat),GAt cs N gb W->r<N->Calls Tryz.prog 16 #[.slice (some ⟨gb,0,none⟩) N cap,.int .i64 (r:Int)] W fun e w'=>∃a c,e=.returned (.slice a (cycW cs r).length c)/\IntsAt w' (.slice a (cycW cs r).length c) ((cycW cs r).map fun k:Nat=>(k:Int))/\Below W.heap.size W w'
theorem z93 (rv nv:Value)(rs:List PR)(ns:List PN)(w:World)(hR:RulesIn w rv rs)(hN:NodesAt w nv ns)(hO:LeftOk rs ns)(hcy:RCyIs (zai rs ns) rs.length) :
  Calls Tryz.prog 14 #[.agg #[rv,nv]] w (zb5 (recW rs ns) w):=by
 have hrl:=hO.rl;have hN0:=hO.r0;obtain⟨ii,hii,hz0,hz1,hz2⟩:=info_parts za3;have HGr:=Lib.hid (fun(W:World) (hb:Below w.heap.size w W)=>(z9m rv nv rs ns W (hR.kept hb (Nat.le_refl _)) (hN.kept hb (Nat.le_refl _)) hO).mono fun e w' h=>h.at hN0);have HCY:=Lib.hid hcy;obtain⟨-,ra,rc,rfl,-⟩:=hR;obtain⟨-,na,nc,rfl,-⟩:=hN;have HB0:=Lib.hid (zab w (.cells #[.slice ra rs.length rc,.slice na ns.length nc] 25));have HREC:=Lib.hid (show ∀k,recB rs ns k=decide (0<(cycW (zai rs ns) k).length) from fun k=>rfl);have hrw:recW rs ns=(List.range rs.length).filter (recB rs ns):=rfl;rw[hrw];generalize recB rs ns=p at *;generalize zai rs ns=cs at *;generalize rs.length=N at *;generalize hnn:ns.length=nn at *;clear hO hcy hnn hrw;go_enter Tryz.func14,Tryz.ntmps14
 go_upto_region 2 with(go_at_call 17;(with_reducible refine(HGr.out _ HB0.out).mono ?_);rintro e w1 ⟨gb,cap,rfl,hg,hb⟩;have HG1:=Lib.hid hg;have HB1:=Lib.hid (bl_on HB0.out hb);clear hg hb)
 go_wp2
 go_loopw [5,4] (fun c v wr=>∃k:Nat,k<=N/\c=.int .i64 (k:Int)/\wr.ownsRow w1.heap.size 3 1 v ((List.range k).filter p).length (natsV ((List.range k).filter p))/\Below w1.heap.size w1 wr) (fun c _ _=>N-(intOf c).toNat)
 case atStart=>exact⟨0,Nat.zero_le _,rfl,World.ownsRow_nil _ _ _ _,Below.refl _ _⟩
 case round=>
  obtain⟨k,hk,rfl,ho,hb⟩:=hrel;obtain⟨va,vc,rfl⟩:=zad ho;have HO:=Lib.hid ho;have HB:=Lib.hid hb;have hfl:=zrq p k;clear ho hb;by_cases hlt:k<N
  ·have k1:(k:Int)<(N:Int):=by omega
   have HCk:=Lib.hid (HCY.out wr gb cap k (HG1.out.below HB.out) hlt);have hpk:=HREC.out k;cases hp:p k with
   |false=>
    rw[hp] at hpk;have hz:¬0<(cycW cs k).length:=by simpa using hpk.symm
    have hz':¬(0:Int)<((cycW cs k).length:Int):=by omega
    have HF:=Lib.hid (z1l (p:=p) hp);clear hpk hp hz
    go_wp2_with (go_at_call 16;(with_reducible refine HCk.out.mono ?_);rintro e w4 ⟨a4,c4,rfl,hi,hb⟩;have HO4:=Lib.hid (zaa HO.out hb);have HB4:=Lib.hid (bl_on HB.out hb);clear hi hb)
    go_roundw
    case rel=>exact⟨k+1,by omega,by go_num,by rw[HF.out];exact HO4.out,HB4.out⟩
    case measure=>simp[intOf];omega
   |true=>
    rw[hp] at hpk;have hz:0<(cycW cs k).length:=by simpa using hpk.symm
    have hz':(0:Int)<((cycW cs k).length:Int):=by omega
    have HF:=Lib.hid (zw9 (p:=p) hp);clear hpk hp hz
    go_wp2_with (first
     |(go_at_call 16;(with_reducible refine HCk.out.mono ?_);rintro e w4 ⟨a4,c4,rfl,hi,hb⟩;have HO4:=Lib.hid (zaa HO.out hb);have HB4:=Lib.hid (bl_on HB.out hb);clear hi hb)
     |(at_builtin;refine wpList_append_own _ rfl _ _ 29 rfl w1.heap.size 3 ii _ 1 8 Tryz.underlying29 hii hz0 hz1 hz2 rfl (by decide) _ ((List.range k).filter p).length _ rfl (zaa HO4.out (zab _ _)) ⟨_,0,none⟩ 1 1 [.int .i64 (k:Int)] rfl rfl (zh8 (by simp) _ _) (by simp[Value.oneCell']) (by unfold maxLen;omega) (by omega) (by have:=HB4.out.size;simp;omega) ?_;intro v5 w5 hown' hgrow _;have HO5:=Lib.hid hown';have HB5:=Lib.hid ((zar HB4.out).grown hgrow (zar HB4.out).size (fun g e=>(HO.out.lt g e).1));clear hown' hgrow))
    go_roundw
    case rel=>exact⟨k+1,by omega,by go_num,by rw[HF.out,List.length_append,zjk];exact HO5.out,HB5.out⟩
    case measure=>simp[intOf];omega
  ·obtain rfl:k=N:=by omega
   have k1:¬(k:Int)<(k:Int):=by omega
   go_wp2;go_ret;exact⟨_,rfl,zax HO.out HB1.out.size,bl_on HB1.out HB.out⟩
end
section
variable {calls:Nat->List Nat} {r N:Nat}
theorem z94 (l:List Nat)(t:List (List Nat)):nextS calls (l::t)=(((calls (lastL l)).filter fun x=>decide (x ∉ l)).map fun x=>l++[x])++nextS calls t:=by
 unfold nextS;rw[List.flatMap_cons]
theorem yaac (h:∀i,(calls i).length<=N):∀all:List (List Nat),(nextS calls all).length<=all.length*N
 | []=>Nat.zero_le _
 |l::t=>by
  have h1:=yaac h t;have h2:=List.length_filter_le (fun x=>decide (x ∉ l)) (calls (lastL l));have h3:=h (lastL l);rw[z94,List.length_append,List.length_map,List.length_cons,Nat.succ_mul];omega
theorem yaar (h:∀i,(calls i).length<=N):∀k,(allS calls r k).length<=N ^ k
 |0=>by simp[allS]
 |k+1=>by
  have h1:=yaac h (allS calls r k);have h2:=yaar h k;have h3:=Nat.mul_le_mul_right N h2;rw[Nat.pow_succ];exact Nat.le_trans h1 h3
theorem yaaw (h:∀i,(calls i).length<=N)(hN:N<=7){k:Nat}(hk:k<=7):(allS calls r k).length<=1000000:=by
 have h1:=yaar (r:=r) h k;have h2:N ^ k<=7 ^ 7:=Nat.le_trans (Nat.pow_le_pow_left hN k) (Nat.pow_le_pow_right (by decide) hk);exact Nat.le_trans h1 (Nat.le_trans h2 (by decide))
end
section
variable {cs:Nat->List Nat} {r N:Nat}
theorem yaaj {l:List Nat}{m:Nat}(h:l.length=m+1):l[m]?=some (lastL l):=by
 obtain⟨p,x,rfl⟩:=zif (l:=l) (by omega);rw[List.length_append] at h;have hp:p.length=m:=by simpa using h
 rw[zdn,List.getElem?_append_right (by omega),hp,Nat.sub_self];rfl
theorem yaa4 (hN:∀i,i<N->∀j,j ∈ cs i->j<N)(hr:r<N):∀(k:Nat) (l:List Nat),l ∈ allS cs r k->∀x,x ∈ l->x<N
 |0,l,hl,x,hx=>by
  unfold allS at hl;rw[List.mem_singleton.1 hl] at hx;rw[List.mem_singleton.1 hx];exact hr
 |k+1,l,hl,x,hx=>by
  unfold allS nextS at hl;obtain⟨m,hm,hl⟩:=List.mem_flatMap.1 hl;obtain⟨y,hy,rfl⟩:=List.mem_map.1 hl;have ih:=yaa4 hN hr k m hm;rcases List.mem_append.1 hx with h|h
  ·exact ih x h
  ·rw[List.mem_singleton.1 h]
   exact hN _ (ih _ (List.mem_of_getElem? (yaaj (z9j.1 hm).1))) y (List.mem_filter.1 hy).1
theorem yabn {x b:List Nat}{t:List (List Nat)}(h:r ∉ cs (lastL x)):bestS cs r (x::t) b=bestS cs r t b:=by
 show bestS cs r t (if decide (r ∈ cs (lastL x))&&(b.isEmpty || ltB x b) then x else b)=_;rw[decide_eq_false h,Bool.false_and];rfl
theorem yabd {x b:List Nat}{t:List (List Nat)}(h:r ∈ cs (lastL x))(hb:(b.isEmpty || ltB x b)=true):bestS cs r (x::t) b=bestS cs r t x:=by
 show bestS cs r t (if decide (r ∈ cs (lastL x))&&(b.isEmpty || ltB x b) then x else b)=_;rw[decide_eq_true h,hb];rfl
theorem yabe {x b:List Nat}{t:List (List Nat)}(hb:(b.isEmpty || ltB x b)=false):bestS cs r (x::t) b=bestS cs r t b:=by
 show bestS cs r t (if decide (r ∈ cs (lastL x))&&(b.isEmpty || ltB x b) then x else b)=_;rw[hb,Bool.and_false];rfl
def rowS (x l:List Nat):List (List Nat):=(l.filter fun y=>decide (y ∉ x)).map fun y=>x++[y]
theorem yabo {x l:List Nat}{y:Nat}(h:y ∈ x):rowS x (y::l)=rowS x l:=by
 unfold rowS;rw[List.filter_cons_of_neg (by simpa using h)]
theorem yabf {x l:List Nat}{y:Nat}(h:y ∉ x):rowS x (y::l)=(x++[y])::rowS x l:=by
 unfold rowS;rw[List.filter_cons_of_pos (by simpa using h)];rfl
theorem yaa5 {x:List Nat}{t:List (List Nat)}:nextS cs (x::t)=rowS x (cs (lastL x))++nextS cs t:=z94 x t
end
section
open Go.RowKit
def LsAt (W:World)(a:Option Addr)(L:List (List Nat)):Prop:=∀(i:Nat) (l:List Nat),L[i]?=some l->∃(b off:Nat) (ax:Option Addr) (cx:Nat),a=some ⟨b,off,none⟩/\W.cell? ⟨b,off+i,none⟩=some (.slice ax l.length cx)/\IntsAt W (.slice ax l.length cx) (l.map fun k:Nat=>(k:Int))
theorem LsAt.below {W W':World}{a:Option Addr}{L:List (List Nat)}(h:LsAt W a L)(hb:Below W.heap.size W W'):LsAt W' a L:=fun i l hl=>by
 obtain⟨b,off,ax,cx,e,h1,h2⟩:=h i l hl;exact⟨b,off,ax,cx,e,by rw[(bcell hb).1 _ _ (zac h1)];exact h1,h2.kept hb (Nat.le_refl _)⟩
def NxAt (base:Nat)(v:Value)(M:List (List Nat))(W:World):Prop:=∃qs:List Value,W.ownsRow base 29 1 v M.length qs/\∀(i:Nat) (q:Value) (l:List Nat),qs[i]?=some q->M[i]?=some l->W.ownsRow base 3 1 q l.length (natsV l)
section
variable {base n c:Nat} {a:Option Addr} {v:Value} {M:List (List Nat)} {W W':World}
theorem NxAt.nil:NxAt base (.slice none 0 0) [] W:=⟨[],World.ownsRow_nil _ _ _ _,fun i q l h=>by simp at h⟩
theorem NxAt.below (h:NxAt base v M W)(hb:Below W.heap.size W W'):NxAt base v M W':=by
 obtain⟨qs,h1,h2⟩:=h;exact⟨qs,zaa h1 hb,fun i q l hq hl=>zaa (h2 i q l hq hl) hb⟩
theorem NxAt.slice (h:NxAt base v M W):∃a c,v=.slice a M.length c:=by
 obtain⟨qs,h1,-⟩:=h;exact zad h1
theorem NxAt.ls (h:NxAt base (.slice a n c) M W):LsAt W a M:=fun i l hl=>by
 obtain⟨qs,h1,h2⟩:=h;have hi:=(List.getElem?_eq_some_iff.1 hl).1;obtain⟨q,hq⟩:∃q,qs[i]?=some q:=⟨_,List.getElem?_eq_getElem (by rw[h1.1,Nat.mul_one];exact hi)⟩;have h3:=h2 i q l hq hl;obtain⟨ax,cx,rfl⟩:=zad h3;rcases h1.2 with⟨-,h0⟩|⟨g,cap,cur,e,-⟩
 ·omega
 ·injection e with e1 e2 e3
  subst e1;have h4:=h1.cells rfl i _ hq;rw[Addr.add_lit,Nat.zero_add] at h4;exact⟨g,0,ax,cx,rfl,by rw[Nat.zero_add];exact h4,IntsAt.of_own (base:=base) (by rw[List.length_map];exact h3)⟩
theorem yabs {l:List Nat}{q v5:Value}{qs:List Value}(h1:W.ownsRow base 29 1 v M.length qs)(h2:∀(i:Nat) (q:Value) (l:List Nat),qs[i]?=some q->M[i]?=some l->W.ownsRow base 3 1 q l.length (natsV l))(hx:W.ownsRow base 3 1 q l.length (natsV l))(g1:W'.ownsRow base 29 1 v5 (M.length+1) (qs++[q]))(g2:W.grownBy W' v.ownBlock):NxAt base v5 (M++[l]) W':=by
 have hk:∀(u:Value) (n:Nat) (ys:List Value),W.ownsRow base 3 1 u n ys->W'.ownsRow base 3 1 u n ys:=fun u n ys h=>zbi (e':=29) h g2 (fun g e=>Lib.ownsRow_kind h1 g e) (by decide)
 have hq:qs.length=M.length:=by rw[h1.1,Nat.mul_one]
 refine⟨qs++[q],by rw[List.length_append];exact g1,fun i u l' hu hl'=>?_⟩;rcases Nat.lt_or_ge i M.length with hi|hi
 ·rw[List.getElem?_append_left (by omega)] at hu
  rw[List.getElem?_append_left hi] at hl';exact hk _ _ _ (h2 i u l' hu hl')
 ·rw[List.getElem?_append_right (by omega)] at hu
  rw[List.getElem?_append_right hi] at hl';rw[hq] at hu;cases hj:i-M.length with
  |zero=>
   rw[hj] at hu hl';cases hu;cases hl';exact hk _ _ _ hx
  |succ j=>rw[hj] at hu;simp at hu
theorem yaas (w:World)(r:Nat):LsAt ((w.alloc (.cells #[.int .i64 (r:Int)] 3)).alloc (.cells #[.slice (some ⟨w.heap.size,0,none⟩) 1 1] 29)) (some ⟨w.heap.size+1,0,none⟩) [[r]]:=fun i l hl=>by
 cases i with
 |succ i=>simp at hl
 |zero=>
  cases hl;refine⟨w.heap.size+1,0,some ⟨w.heap.size,0,none⟩,1,rfl,?_,⟨_,_,rfl,.inr ⟨w.heap.size,0,rfl,fun i x hx=>?_⟩⟩⟩
  ·exact(Bl.new' (t:=29) (cs:=#[.slice (some ⟨w.heap.size,0,none⟩) 1 1]) (by simp)).cell (o:=0) rfl
  ·cases i with
   |succ i=>simp at hx
   |zero=>
    cases hx;exact(Bl.past (Bl.new w 3 #[.int .i64 (r:Int)])).cell (o:=0) rfl
end
end
section
open Go.RowKit
theorem z9t:∀(l:List Oper) (i:Nat) (L:Nat->Bool) (vals:Nat->Value) (a:Act) (t:Tmp),(∀j o,l[j]?=some o->o.dst=some t->L (i+j)=false)->(fill l i L vals a).eval (.tmp t)=a.eval (.tmp t)
 | [],_,_,_,_,_,_=>rfl
 |o::r,i,L,vals,a,t,h=>by
  unfold fill;rw[z9t r (i+1) L vals _ t fun j o' h1 h2=>by rw[show i+1+j=i+(j+1) from by omega];exact h (j+1) o' (by simpa using h1) h2];split
  ·rename_i hL
   refine Act.eval_put fun d hd he=>?_
   have:=h 0 o rfl (by injection he with he;rw[hd,he]);rw[Nat.add_zero,hL] at this;cases this
  ·rfl
def onlyB (l:List Oper)(t:Tmp)(i:Nat):Bool:=(List.range l.length).all fun j=>match l[j]? with
 |some o=>o.dst != some t || j == i
 |none=>true
theorem z96 {l:List Oper}{t:Tmp}{L:Nat->Bool}(h:(l.all fun o=>o.dst != some t)=true):∀j o,l[j]?=some o->o.dst=some t->L j=false:=fun j o h1 h2=>by
 have:=List.all_eq_true.1 h o (List.mem_of_getElem? h1);rw[h2] at this;simp at this
theorem yabp {l:List Oper}{t:Tmp}{i:Nat}{L:Nat->Bool}(h:onlyB l t i=true)(hL:L i=false):∀j o,l[j]?=some o->o.dst=some t->L j=false:=fun j o h1 h2=>by
 have hj:=(List.getElem?_eq_some_iff.1 h1).1;have:=List.all_eq_true.1 h j (List.mem_range.2 hj);rw[h1] at this;dsimp only at this;rw[h2] at this;simp at this;rw[this];exact hL
def yabj (P:Program)(l:List Oper)(a0:Act)(T:(Nat->Bool)->Nat->Value->World->Prop)(R:Nat->World->World->Prop)(S:(Nat->Bool)->World->Prop)(Q:Exit->Act->World->Prop)(i:Nat)(o:Oper):Prop:=
 ∀(L:Nat->Bool) (a:Act) (w:World),L i=false->(∀j,z7u l j i=true->L j=false)->S L w->(∀t,(∀j o,l[j]?=some o->o.dst=some t->L j=false)->a.eval (.tmp t)=a0.eval (.tmp t))->(∀k d,depB l o k d=true->T L k (a.eval (.tmp d)) w) ->
  if Region.wanted o (yielded l.toArray a.tmps) then o.wp P a w (fun a' w'=>∃v,a'=a.put o.dst v/\T (fun k=>if k=i then true else L k) i v w'/\R i w w'/\S (fun k=>if k=i then true else L k) w') Q else T (fun k=>if k=i then true else L k) i undef w/\R i w w/\S (fun k=>if k=i then true else L k) w
def StepsLx (P:Program)(l:List Oper)(a0:Act)(T:(Nat->Bool)->Nat->Value->World->Prop)(R:Nat->World->World->Prop)(S:(Nat->Bool)->World->Prop)(Q:Exit->Act->World->Prop):Nat->List Oper->Prop
 |_,[]=>True
 |i,o::r=>yabj P l a0 T R S Q i o/\StepsLx P l a0 T R S Q (i+1) r
theorem StepsLx.at {P:Program}{l:List Oper}{a0:Act}{T:(Nat->Bool)->Nat->Value->World->Prop}{R:Nat->World->World->Prop}{S:(Nat->Bool)->World->Prop}{Q:Exit->Act->World->Prop} :
  ∀ {r:List Oper} {i:Nat},StepsLx P l a0 T R S Q i r->∀ {j:Nat} {o:Oper},r[j]?=some o->yabj P l a0 T R S Q (i+j) o
 | [],_,_,_,_,h=>by cases h
 |o::r,i,h,0,o',h'=>by cases h';exact h.1
 |o::r,i,h,j+1,o',h'=>by rw[show i+(j+1)=i+1+j from by omega];exact h.2.at h'
theorem yaad {P:Program}{id:Nat}{l:List Oper}{a0:Act}{w0:World}{Q:Exit->Act->World->Prop}(hm:P.follows .mixedOrders=true)(T:(Nat->Bool)->Nat->Value->World->Prop)(R:Nat->World->World->Prop)(S:(Nat->Bool)->World->Prop)
  (hap:z9v l=true) (hsz:(l.all fun o=>match o.dst with|some d=>decide (d<a0.tmps.size)|none=>true)=true)
  (hback:backB l 0=true)
  (hmono:∀(L:Nat->Bool) k i v w w',k≠i->L k=true->L i=false->(∀j i,z7u l j i=true->L j=true->L i=true)->(∀j,z7u l i j=true->L j=true)->R i w w'->T L k v w->T (fun k=>if k=i then true else L k) k v w') (hS:S (fun _=>false) w0.drew)
  (hsteps:StepsLx P l a0 T R S Q 0 l)
  (hdone:∀(vals:Nat->Value) (w:World) (L:Nat->Bool),(∀k,k<l.length->L k=true)->(∀k,k<l.length->T L k (vals k) w)->S L w->Q .normal (fill l 0 (fun _=>true) vals a0) w) :
  (Code.region id l.toArray true).wp P Q a0 w0:=by
 refine wp_region_any hm ?_;refine z99 (fun listed a w=>listed.size=l.length/\∃vals:Nat->Value,a=fill l 0 (fun k=>listed.getD k false) vals a0/\(∀k,listed.getD k false=true->T (fun k=>listed.getD k false) k (vals k) w)/\S (fun k=>listed.getD k false) w/\∀j i,z7u l j i=true->listed.getD j false=true->listed.getD i false=true) ?_ ?_ _ _ _ _ ?_ (by simp) ?_
 ·rintro listed a w i o ho hi ⟨hls,vals,rfl,hT,hSw,hcl⟩
  obtain⟨h1,o',ho',hdeps⟩:=mem_ready.1 hi;rw[ho] at ho';cases ho';have ho2:l[i]?=some o:=by simpa using ho
  have hil:i<l.length:=(List.getElem?_eq_some_iff.1 ho2).1;have h1':listed.getD i false=false:=by
   rw[Array.getD_eq_getD_getElem?,Array.getElem?_eq_getElem (by omega)] at h1 ⊢;exact h1
  have hst:=hsteps.at ho2 (fun k=>listed.getD k false) (fill l 0 (fun k=>listed.getD k false) vals a0) w (by rw[Nat.zero_add];exact h1')
   (fun j hj=>by
    rw[Nat.zero_add] at hj;cases hlj:listed.getD j false with
    |false=>rfl
    |true=>rw[hcl j i hj hlj] at h1';cases h1')
   hSw
   (fun t ht=>z9t l 0 _ vals a0 t fun j o h1 h2=>by rw[Nat.zero_add];exact ht j o h1 h2)
   (fun k d hd=>by
    unfold depB at hd;rw[Bool.and_eq_true] at hd;obtain⟨e,he,hek⟩:=Array.any_eq_true'.1 hd.1;rw[Bool.and_eq_true,beq_iff_eq] at hek;have hlk:=hdeps e he hek.2;rw[hek.1] at hlk;have hd2:(l[k]?).bind (·.dst)=some d:=by simpa using hd.2
    obtain⟨ok,hok,hdk⟩:=Option.bind_eq_some_iff.1 hd2;have hds:d<a0.tmps.size:=by
     have:=List.all_eq_true.1 hsz ok (List.mem_of_getElem? hok);rw[hdk] at this;simpa using this
    rw[z98 l 0 k ok d _ vals a0 hap hok hdk (by rw[Nat.zero_add];exact hlk) hds,Nat.zero_add];exact hT k hlk)
  rw[Nat.zero_add] at hst;have hwt:∀j,z7u l i j=true->listed.getD j false=true:=fun j hj=>by
   unfold z7u at hj;rw[ho2] at hj;obtain⟨e,he,hek⟩:=Array.any_eq_true'.1 hj;rw[Bool.and_eq_true,beq_iff_eq] at hek;have:=hdeps e he hek.2;rw[hek.1] at this;exact this
  have hL:(fun k=>if k=i then true else listed.getD k false)=fun k=>(listed.setIfInBounds i true).getD k false:=by
   funext k;by_cases hk:k=i
   ·subst hk
    rw[if_pos rfl,Array.getD_eq_getD_getElem?,Array.getElem?_setIfInBounds_self_of_lt (by omega)];rfl
   ·rw[if_neg hk,getD_set_ne false (by omega)]
  have hcl':∀j k,z7u l j k=true->(listed.setIfInBounds i true).getD j false=true->(listed.setIfInBounds i true).getD k false=true:=by
   intro j k hjk hj;by_cases hji:j=i
   ·subst hji
    unfold z7u at hjk;rw[ho2] at hjk;obtain⟨e,he,hek⟩:=Array.any_eq_true'.1 hjk;rw[Bool.and_eq_true,beq_iff_eq] at hek;have:=hdeps e he hek.2;rw[hek.1] at this;exact getD_set_true this
   ·rw[getD_set_ne false (by omega)] at hj
    exact getD_set_true (hcl j k hjk hj)
  have next:∀(v:Value) (w':World),T (fun k=>if k=i then true else listed.getD k false) i v w'->R i w w'->S (fun k=>if k=i then true else listed.getD k false) w'->(listed.setIfInBounds i true).size=l.length/\∃vals':Nat->Value,(fill l 0 (fun k=>listed.getD k false) vals a0).put o.dst v=fill l 0 (fun k=>(listed.setIfInBounds i true).getD k false) vals' a0/\(∀k,(listed.setIfInBounds i true).getD k false=true->T (fun k=>(listed.setIfInBounds i true).getD k false) k (vals' k) w')/\S (fun k=>(listed.setIfInBounds i true).getD k false) w'/\∀j k,z7u l j k=true->(listed.setIfInBounds i true).getD j false=true->(listed.setIfInBounds i true).getD k false=true:=by
   intro v w' hTv hb hS';rw[hL] at hS' hTv;refine⟨by simpa using hls,fun k=>if k=0+i then v else vals k,?_,?_,hS',hcl'⟩
   ·rw[yaao l 0 i o _ vals a0 v hap ho2 (by rw[Nat.zero_add];exact h1')]
    refine z9q _ _ _ _ _ _ _ fun k _=>⟨?_,rfl⟩
    by_cases hk:k=i
    ·subst hk
     rw[if_pos (by omega),Array.getD_eq_getD_getElem?,Array.getElem?_setIfInBounds_self_of_lt (by omega)];rfl
    ·rw[if_neg (by omega),getD_set_ne false (by omega)]
   ·intro k hk
    by_cases hki:k=i
    ·subst hki;simp only[Nat.zero_add,if_true];exact hTv
    ·simp only[Nat.zero_add,hki,if_false]
     rw[getD_set_ne false (by omega)] at hk;rw[<-hL];exact hmono _ k i _ w w' hki hk h1' hcl hwt hb (hT k hk)
  unfold wpOp;simp only[ho];split
  ·rename_i hw
   rw[if_pos hw] at hst;refine .inl (Oper.wp_mono ?_ hst);rintro a' w' ⟨v,rfl,hTv,hb,hS'⟩;exact next v w' hTv hb hS'
  ·rename_i hw
   rw[if_neg hw] at hst;exact next undef w hst.1 hst.2.1 hst.2.2
 ·rintro listed a w hr ⟨hls,vals,rfl,hT,hSw,hcl⟩
  have hall:=yaau hback hr hls;have e:fill l 0 (fun k=>listed.getD k false) vals a0=fill l 0 (fun _=>true) vals a0:=by
   have go:∀(r:List Oper) (i:Nat) (a:Act),i+r.length=l.length->fill r i (fun k=>listed.getD k false) vals a=fill r i (fun _=>true) vals a:=by
    intro r
    induction r with
    |nil=>intro i a _;rfl
    |cons o r ih=>
     intro i a h;simp only[List.length_cons] at h;have hi:=hall i (by omega);unfold fill;simp only[hi];exact ih (i+1) _ (by omega)
   exact go l 0 a0 (by omega)
  rw[e];exact hdone vals w _ hall (fun k hk=>hT k (hall k hk)) hSw
 ·simp[List.filter_eq_self.2]
 ·have hfalse:(fun k=>(Array.replicate l.toArray.size false).getD k false)=fun _=>false:=by
   funext k;rw[Array.getD_eq_getD_getElem?,Array.getElem?_replicate];split<;>rfl
  refine⟨by simp,fun _=>undef,?_,fun k hk=>?_,by rw[hfalse];exact hS,fun j i _ hj=>?_⟩
  ·have go:∀(r:List Oper) (i:Nat) (a:Act),fill r i (fun k=>(Array.replicate l.toArray.size false).getD k false) (fun _=>undef) a=a:=by
    intro r
    induction r with
    |nil=>intro i a;rfl
    |cons o r ih=>
     intro i a;unfold fill;have hf:(Array.replicate l.toArray.size false).getD i false=false:=by
      rw[Array.getD_eq_getD_getElem?,Array.getElem?_replicate];split<;>rfl
     simp only[hf,Bool.false_eq_true,if_false];exact ih (i+1) a
   exact(go l 0 a0).symm
  ·have hf:(Array.replicate l.toArray.size false).getD k false=false:=by
    rw[Array.getD_eq_getD_getElem?,Array.getElem?_replicate];split<;>rfl
   rw[hf] at hk;cases hk
  ·have hf:(Array.replicate l.toArray.size false).getD j false=false:=by
    rw[Array.getD_eq_getD_getElem?,Array.getElem?_replicate];split<;>rfl
   rw[hf] at hj;cases hj
end
section
open Go.RowKit
section
variable {P:Program} (w:World) (lo:Nat) (t ty e:TypeId) (i:TypeInfo) (z:Value) (size bytes:Nat) (ht:P.underlying t=some (.slice e)) (hi:P.info? e=some i) (hz:i.zero=some z)
  (hsize:i.size=size) (hby:i.bytes=bytes) (hzs:z.cells.size=size)
include ht hi hz hsize hby hzs
theorem yaa6 (B b off m c:Nat)(news:List Value)(hl:news.length=m*size)(hm:0<m)(hn:∀j u,news[j]?=some u->w.cell? ((⟨b,off,none⟩:Addr).add j)=some u)
  (h63:m<=maxLen) (hbytes:m*bytes<=140737488355328) (hbase:lo<=w.heap.size) :
  ∃a' c' w',(Builtin.append_ #[t,t] ty #[.slice (some ⟨B,0,none⟩) 0 0,.slice (some ⟨b,off,none⟩) m c]).run P w=.ok (.slice a' m c') w'/\w'.ownsRow lo e size (.slice a' m c') m news/\w.grownBy w' none:=by
 subst hsize;subst hby;have hr:=run_append_grow (P:=P) w t ty e i z ht hi hz ⟨B,0,none⟩ 0 0 [] (by simp) (fun j u h=>by simp at h) ⟨b,off,none⟩ m c news hl hn (by omega) (by simp only[maxLen] at h63;omega) (growslice_fits (by omega) (by rw[Nat.zero_add];exact hbytes));rw[Nat.zero_add] at hr;have hge:=grownCap_ge w m 0 e;have hcm:grownCap w m 0 e<=maxLen:=grownCap_le_maxLen w m 0 e h63;refine⟨_,_,_,hr,⟨hl,.inr ⟨w.heap.size,_,_,rfl,hbase,heap_alloc_new w.drew _,hge,hcm,?_,?_⟩⟩,⟨rfl,rfl,rfl,by simp,fun k hk _=>heap_alloc_old w.drew _ hk⟩⟩
 ·simp only[Array.size_append,List.size_toArray,size_zeroCells,hzs,hl,List.length_nil,Nat.zero_add,<-Nat.add_mul]
  congr 1;omega
 ·simp only[Array.toList_append,List.nil_append]
  rw[<-hl];exact List.take_left
end
structure RyS (wr w0:World) (L:Nat->Bool) (W:World):Prop where
 size:w0.heap.size<=W.heap.size
 low:Below wr.heap.size wr W
 mid:L 14=false->Below w0.heap.size w0 W
section
variable {wr w0 W W':World} {L:Nat->Bool}
theorem z9y {L:Nat->Bool}{i j:Nat}(h:(if j=i then true else L j)=false):L j=false/\j≠i:=by
 by_cases e:j=i
 ·rw[if_pos e] at h;cases h
 ·rw[if_neg e] at h;exact⟨h,e⟩
theorem RyS.next (h:RyS wr w0 L W)(hw:wr.heap.size<=w0.heap.size)(hb:Below w0.heap.size W W')(i:Nat):RyS wr w0 (fun j=>if j=i then true else L j) W':=
 ⟨Nat.le_trans h.size hb.size,h.low.trans (hb.mono hw),fun e=>(h.mid (z9y e).1).trans hb⟩
theorem RyS.same (h:RyS wr w0 L W)(i:Nat):RyS wr w0 (fun j=>if j=i then true else L j) W:=⟨h.size,h.low,fun e=>h.mid (z9y e).1⟩
theorem RyS.last (h:RyS wr w0 L W)(hb:Below wr.heap.size W W'):RyS wr w0 (fun j=>if j=14 then true else L j) W':=⟨Nat.le_trans h.size hb.size,h.low.trans hb,fun e=>absurd rfl (z9y e).2⟩
end
def RyR (i:Nat)(w w':World):Prop:=i≠12->i≠14->Below w.heap.size w w'
def RyT (base B1:Nat)(nv:Value)(lb lo ln lc i:Nat)(xv:Value)(x:List Nat)(qb qo qn qc k y:Nat)(M:List (List Nat))(L:Nat->Bool):Nat->Value->World->Prop
 |0,v,_=>v=nv
 |1,v,_=>∃B,v=.slice (some ⟨B,0,none⟩) 0 0
 |2,v,_=>v=.slice (some ⟨lb,lo,none⟩) ln lc
 |3,v,_=>v=.int .i64 (i:Int)
 |4,v,_=>v=.pointer (some ⟨lb,lo+i,none⟩)
 |5,v,_=>v=xv
 |6,v,W=>L 12=false->∃a c,v=.slice a x.length c/\W.ownsRow B1 3 1 v x.length (natsV x)
 |7,v,_=>v=.slice (some ⟨qb,qo,none⟩) qn qc
 |8,v,_=>v=.int .i64 (k:Int)
 |9,v,_=>v=.pointer (some ⟨qb,qo+k,none⟩)
 |10,v,_=>v=.int .i64 (y:Int)
 |11,v,W=>L 12=false->∃E,v=.slice (some ⟨E,0,none⟩) 1 1/\W.ownsRow B1 3 1 v 1 [.int .i64 (y:Int)]
 |12,v,W=>L 14=false->∃a c,v=.slice a (x.length+1) c/\W.ownsRow B1 3 1 v (x.length+1) (natsV x++[.int .i64 (y:Int)])
 |13,v,W=>L 14=false->∃E a c,v=.slice (some ⟨E,0,none⟩) 1 1/\Bl W E 29 #[.slice a (x.length+1) c]/\W.ownsRow B1 3 1 (.slice a (x.length+1) c) (x.length+1) (natsV x++[.int .i64 (y:Int)])
 |14,v,W=>∃a c,v=.slice a (M.length+1) c/\NxAt base v (M++[x++[y]]) W
 |15,v,W=>∃a c,v=.slice a (M.length+1) c/\NxAt base v (M++[x++[y]]) W
 |_,_,_=>True
theorem yabu (base B1:Nat)(nv:Value)(lb lo ln lc i0:Nat)(xv:Value)(x:List Nat)(qb qo qn qc k0 y:Nat)(M:List (List Nat))(L:Nat->Bool)(k i:Nat)(v:Value)(w w':World)(hki:k≠i)(hk:L k=true)(hi:L i=false)(h13:L 13=true->L 12=true)(h14:L 14=true->L 13=true)(h15:L 15=true->L 14=true)
  (w14:i=14->L 13=true) (hR:RyR i w w')
  (hT:RyT base B1 nv lb lo ln lc i0 xv x qb qo qn qc k0 y M L k v w):RyT base B1 nv lb lo ln lc i0 xv x qb qo qn qc k0 y M (fun j=>if j=i then true else L j) k v w':=by
 have no:∀ {b:Bool},b=true->b=false->False:=fun h1 h2=>by rw[h1] at h2;cases h2
 match k,hki,hk,hT with
 |0,_,_,hT=>exact hT
 |1,_,_,hT=>exact hT
 |2,_,_,hT=>exact hT
 |3,_,_,hT=>exact hT
 |4,_,_,hT=>exact hT
 |5,_,_,hT=>exact hT
 |6,_,_,hT=>
  intro e;obtain⟨e12,hne⟩:=z9y e;obtain⟨a,c,e1,ho⟩:=hT e12;exact⟨a,c,e1,zaa ho (hR (fun e=>hne e.symm) (fun e=>no (h13 (w14 e)) e12))⟩
 |7,_,_,hT=>exact hT
 |8,_,_,hT=>exact hT
 |9,_,_,hT=>exact hT
 |10,_,_,hT=>exact hT
 |11,_,_,hT=>
  intro e;obtain⟨e12,hne⟩:=z9y e;obtain⟨E,e1,ho⟩:=hT e12;exact⟨E,e1,zaa ho (hR (fun e=>hne e.symm) (fun e=>no (h13 (w14 e)) e12))⟩
 |12,hki,_,hT=>
  intro e;obtain⟨e14,hne⟩:=z9y e;obtain⟨a,c,e1,ho⟩:=hT e14;exact⟨a,c,e1,zaa ho (hR (fun e=>hki e.symm) (fun e=>hne e.symm))⟩
 |13,_,hk,hT=>
  intro e;obtain⟨e14,hne⟩:=z9y e;obtain⟨E,a,c,e1,hB,ho⟩:=hT e14;have hb:=hR (fun e=>no (h13 hk) (e ▸ hi)) (fun e=>hne e.symm);exact⟨E,a,c,e1,hB.below hb,zaa ho hb⟩
 |14,hki,hk,hT=>
  obtain⟨a,c,e1,ho⟩:=hT;exact⟨a,c,e1,ho.below (hR (fun e=>no (h13 (h14 hk)) (e ▸ hi)) (fun e=>hki e.symm))⟩
 |15,_,hk,hT=>
  obtain⟨a,c,e1,ho⟩:=hT;exact⟨a,c,e1,ho.below (hR (fun e=>no (h13 (h14 (h15 hk))) (e ▸ hi)) (fun e=>no (h15 hk) (e ▸ hi)))⟩
 |k+16,_,_,_=>trivial
end
section
open Go.RowKit
theorem yaak {x y:Nat}{l m:List Nat}(h:x≠y):ltB (x::l) (y::m)=decide (x<y):=by
 show(decide (x<y) || (decide (x=y)&&ltB l m))=_;rw[decide_eq_false h,Bool.false_and,Bool.or_false]
theorem yaal {x:Nat}{l m:List Nat}:ltB (x::l) (x::m)=ltB l m:=by
 show(decide (x<x) || (decide (x=x)&&ltB l m))=_;rw[decide_eq_false (Nat.lt_irrefl x),decide_eq_true rfl,Bool.false_or,Bool.true_and]
theorem z9z {α:Type}{l:List α}{k:Nat}{x:α}(h:l[k]?=some x):l.drop k=x::l.drop (k+1):=by
 obtain⟨hk,e⟩:=List.getElem?_eq_some_iff.1 h;rw[List.drop_eq_getElem_cons hk,e]
theorem yaam (u v:Value)(l m:List Nat)(w:World)(hl:l.length<=100000)(hlm:l.length=m.length)(hu:IntsAt w u (l.map fun k:Nat=>(k:Int)))(hv:IntsAt w v (m.map fun k:Nat=>(k:Int))) :
  Calls Tryz.prog 39 #[u,v] w fun e w'=>e=.returned (.bool (ltB l m))/\Below w.heap.size w w':=by
 have HU:=Lib.hid hu;have HV:=Lib.hid hv;obtain⟨a,ca,rfl,-⟩:=id hu;obtain⟨b,cb,rfl,-⟩:=id hv;rw[List.length_map] at HU HV ⊢;rw[List.length_map];have hlm':(l.length:Int)=(m.length:Int):=by omega
 clear hu hv;go_enter Tryz.func39,Tryz.ntmps39;go_wp2
 go_loopw [5] (fun c wr=>∃k:Nat,k<=l.length/\c=.int .i64 (k:Int)/\Below w.heap.size w wr/\ltB l m=ltB (l.drop k) (m.drop k)) (fun c _=>l.length-(intOf c).toNat)
 case atStart=>exact⟨0,Nat.zero_le _,by first|rfl|trivial,Below.refl _ _,rfl⟩
 case round=>
  obtain⟨k,hk,rfl,hb,hj⟩:=hrel;have HB:=Lib.hid hb;have HJ:=Lib.hid hj;by_cases hlt:k<l.length
  ·have k1:(k:Int)<(l.length:Int):=by omega
   have k2:(k:Int)<(m.length:Int):=by omega
   obtain⟨x,hx⟩:∃x,l[k]?=some x:=⟨_,List.getElem?_eq_getElem hlt⟩;obtain⟨y,hy⟩:∃y,m[k]?=some y:=⟨_,List.getElem?_eq_getElem (by omega)⟩;obtain⟨ub,uo,rfl,ux⟩:=(HU.out.kept hb (Nat.le_refl _)).cell (i:=k) (x:=(x:Int)) (by rw[List.getElem?_map,hx];rfl);obtain⟨vb,vo,rfl,vx⟩:=(HV.out.kept hb (Nat.le_refl _)).cell (i:=k) (x:=(y:Int)) (by rw[List.getElem?_map,hy];rfl);have lu:=zac ux;have lv:=zac vx;rw[z9z hx,z9z hy] at HJ;clear hb hj hx hy;by_cases e:x=y
   ·subst e
    rw[yaal] at HJ;have e':((x:Int) != (x:Int))=false:=by simp
    go_upto_region 4 with fail
    go_quiet (fail);go_wp2;go_roundw
    case rel=>exact⟨k+1,by omega,by go_num,by first|exact HB.out|exact HB.out.drew|exact zak HB.out,HJ.out⟩
    case measure=>simp[intOf];omega
   ·rw[yaak e] at HJ
    have e':((x:Int) != (y:Int))=true:=zbx (by omega);have e2:decide ((x:Int)<(y:Int))=decide (x<y):=decide_eq_decide.2 (by omega)
    go_upto_region 4 with fail
    go_quiet (fail)
    go_upto_region 5 with fail
    go_quiet (fail);go_wp2;go_ret;exact⟨by rw[HJ.out,<-e2];rfl,by first|exact HB.out|exact HB.out.drew|exact zak HB.out|exact zak (zak HB.out)⟩
  ·obtain rfl:k=l.length:=by omega
   have k1:¬(l.length:Int)<(l.length:Int):=by omega
   have HR:=Lib.hid (show ltB l m=false from by rw[HJ.out,List.drop_length];rfl);clear hb hj;go_wp2;go_ret;exact⟨by rw[HR.out];rfl,HB.out⟩
end
section
open Go.RowKit
theorem yaa7 {l:List Nat}{r:Nat}:((r:Int) ∈ l.map fun k:Nat=>(k:Int))↔r ∈ l:=by
 rw[List.mem_map];exact⟨fun⟨x,hx,e⟩=>by
               have e:x=r:=by omega
               rw[<-e];exact hx,fun h=>⟨r,h,rfl⟩⟩
theorem yabq {W:World}{b off n c:Nat}{l:List Nat}(h:IntsAt W (.slice (some ⟨b,off,none⟩) n c) (l.map fun k:Nat=>(k:Int))):∀j u,(natsV l)[j]?=some u->W.cell? ((⟨b,off,none⟩:Addr).add j)=some u:=fun j u hu=>by
 unfold natsV intsV at hu;rw[List.getElem?_map] at hu;obtain⟨x,hx,rfl⟩:=Option.map_eq_some_iff.1 hu;obtain⟨b',o',e,hc⟩:=h.cell hx;cases e;rw[Addr.add_lit];exact hc
theorem rcK {n0 lb lo qb qo:Nat}{u v:Value}{w W W':World}(hn:n0<=w.heap.size)(hb:Below W.heap.size W W')(h:W.cell? ⟨lb,lo,none⟩=some u/\W.cell? ⟨qb,qo,none⟩=some v/\Below n0 w W):W'.cell? ⟨lb,lo,none⟩=some u/\W'.cell? ⟨qb,qo,none⟩=some v/\Below n0 w W':=by
 obtain⟨h0,h1,h2⟩:=h;exact⟨by rw[(bcell hb).1 _ _ (zac h0)];exact h0,by rw[(bcell hb).1 _ _ (zac h1)];exact h1,h2.trans (hb.mono (Nat.le_trans hn h2.size))⟩
theorem yaae (cs:Nat->List Nat)(N:Nat)(hcs:∀i,i<N->∀j,j ∈ cs i->j<N)(hlen:∀i,(cs i).length<=N)(hN7:N<=7):RCyIs cs N:=by
 intro w gb cap r hg hr;obtain⟨ii,hii,hz0,hz1,hz2⟩:=info_parts za3;obtain⟨jj,hjj,hy0,hy1,hy2⟩:=info_parts z92;have HGA:=Lib.hid hg;have HLT:=Lib.hid (fun k=>yaa4 hcs hr k);have HLE:=Lib.hid (fun(k:Nat) (l:List Nat) (h:l ∈ allS cs r k)=>(z9j.1 h).1);have HA7:=Lib.hid (fun k (hk:k<=7)=>yaaw (r:=r) hlen hN7 hk);have HNONE:=Lib.hid (fun h=>zwr (yaaz hcs hr h));have HYES:=Lib.hid (fun(k:Nat) (hno:∀j,j<k->bestS cs r (allS cs r j) []=[]) (l:List Nat) (h:bestS cs r (allS cs r k) []=l) (hl:l≠[])=>zpc (yaba hno h hl));clear hg hcs;go_enter Tryz.func16,Tryz.ntmps16;go_wp2
 go_loopw [6,5] (fun c v wr=>∃(m:Nat) (a:Option Addr) (ca:Nat),m<=N/\c=.int .i64 ((m:Int)+1)/\v=.slice a (allS cs r m).length ca/\LsAt wr a (allS cs r m)/\Below w.heap.size w wr/\∀j,j<m->bestS cs r (allS cs r j) []=[]) (fun c _ _=>N+1-(intOf c).toNat)
 case atStart=>exact⟨0,some ⟨w.heap.size+1,0,none⟩,1,Nat.zero_le _,rfl,rfl,by first|exact yaas w r|(simp;exact yaas w r),zat _ _ _,fun j h=>absurd h (Nat.not_lt_zero _)⟩
 case round=>
  obtain⟨m,a,ca,hm,rfl,rfl,hl,hb,hno⟩:=hrel;obtain⟨w1,rfl⟩:∃w1,w1=wr:=⟨_,rfl⟩;have HL:=Lib.hid hl;have HB:=Lib.hid hb;have HNO:=Lib.hid hno;have HLm:=Lib.hid (HLE.out m);have HLl:=Lib.hid (HLT.out m);have hLm7:=HA7.out m (by omega);obtain⟨LL,hLL⟩:∃LL,allS cs r m=LL:=⟨_,rfl⟩;have HLL:=Lib.hid hLL;rw[hLL] at HL HLm HLl hLm7;rw[hLL];clear hl hb hno hLL;by_cases hlt:m<N
  ·have n1:(m:Int)+1<=(N:Int):=by omega
   have n2:IntKind.i64.wrap ((m:Int)+1-1)=(m:Int):=by rw[Int.add_sub_cancel];exact IntWalk.i64_in _ (by omega)
   have n3:IntKind.i64.wrap (m:Int)=(m:Int):=IntWalk.i64_in _ (by omega);go_wp2
   go_loopw [8,7] (fun c u wq=>∃(k:Nat) (b:List Nat) (ab:Option Addr) (cb:Nat),k<=LL.length/\c=.int .i64 (k:Int)/\u=.slice ab b.length cb/\IntsAt wq (.slice ab b.length cb) (b.map fun k:Nat=>(k:Int))/\(b=[]∨b.length=m+1)/\bestS cs r (LL.drop k) b=bestS cs r LL []/\Below w1.heap.size w1 wq) (fun c _ _=>LL.length-(intOf c).toNat)
   case atStart=>exact⟨0,[],none,0,Nat.zero_le _,rfl,rfl,⟨_,_,rfl,.inl rfl⟩,.inl rfl,rfl,Below.refl _ _⟩
   case round=>
    obtain⟨k,b,ab,cb,hk,rfl,rfl,hbi,hbl,hbe,hb2⟩:=hrel;have HBI:=Lib.hid hbi;have HBL:=Lib.hid hbl;have HBE:=Lib.hid hbe;have HB2:=Lib.hid hb2;by_cases hkl:k<LL.length
    ·have k1:(k:Int)<(LL.length:Int):=by omega
     obtain⟨x,hx⟩:∃x,LL[k]?=some x:=⟨_,List.getElem?_eq_getElem hkl⟩;have hxm:=List.mem_of_getElem? hx;have hxl:=HLm.out x hxm;have hxN:=HLl.out x hxm;have hla:=yaaj hxl;obtain⟨lb,lo,ax,cx,rfl,c0,hxi⟩:=(HL.out.below hb2) k x hx;rw[hxl] at c0 hxi;obtain⟨xb,xo,rfl,xm⟩:=hxi.cell (i:=m) (x:=((lastL x:Nat):Int)) (by rw[List.getElem?_map,hla];rfl);have hzN:=hxN _ (List.mem_of_getElem? hla);have HDR:=Lib.hid (z9z hx);rw[HDR.out] at HBE;have HXI:=Lib.hid hxi;have HBN:=Lib.hid (fun h=>yabn (cs:=cs) (r:=r) (x:=x) (b:=b) (t:=LL.drop (k+1)) h);have HBW:=Lib.hid (fun h1 h2=>yabd (cs:=cs) (r:=r) (x:=x) (b:=b) (t:=LL.drop (k+1)) h1 h2);have HBO:=Lib.hid (fun h=>yabe (cs:=cs) (r:=r) (x:=x) (b:=b) (t:=LL.drop (k+1)) h);generalize lastL x=z at *;have z1:(z:Int)<(N:Int):=by omega
     obtain⟨ga,gc,g0,gi⟩:=(HGA.out.below (bl_on HB.out hb2)) z hzN;have HGI:=Lib.hid gi;have m1:(m:Int)<((m+1:Nat):Int):=by omega
     have lc0:=zac c0;have lxm:=zac xm;have lg0:=zac g0;have hcz:=hlen z;have HHAS:=Lib.hid (fun(bb:Bool) (h:decide (r ∈ cs z)=bb)=>z91 (.slice ga (cs z).length gc) _ (r:Int) bb wr (by rw[List.length_map];omega) HGI.out (by rw[<-h];exact decide_eq_decide.2 yaa7));clear hbi hbl hbe hb2 hx hxm hxN hla hxi gi hzN;by_cases hr1:r ∈ cs z
     ·have HHAt:=Lib.hid (HHAS.out true (decide_eq_true hr1))
      have HR1:=Lib.hid hr1;clear hr1 HHAS;by_cases hb0:b=[]
      ·subst hb0
       have HBN2:=Lib.hid (HBW.out HR1.out rfl)
       go_wp2_with (go_at_call 38;(with_reducible refine HHAt.out.mono ?_);rintro e w2 ⟨rfl,hw⟩;obtain rfl:=hw.symm)
       go_roundw
       case rel=>exact⟨k+1,x,some ⟨xb,xo,none⟩,cx,by omega,by go_num,by rw[hxl],by rw[hxl];exact HXI.out,.inr hxl,by rw[<-HBE.out,HBN2.out],HB2.out⟩
       case measure=>simp[intOf];omega
      ·have hbl1:b.length=m+1:=HBL.out.resolve_left hb0
       have be0:b.isEmpty=false:=by cases b with
        |nil=>exact absurd rfl hb0
        |cons y t=>rfl
       have HBI1:=Lib.hid (show IntsAt wr (.slice ab (m+1) cb) (b.map fun k:Nat=>(k:Int)) from by rw[<-hbl1];exact HBI.out);have HLS:=Lib.hid (yaam (.slice (some ⟨xb,xo,none⟩) (m+1) cx) (.slice ab (m+1) cb) x b wr (by omega) (by omega) HXI.out HBI1.out);have m2:(((m+1:Nat):Int) == 0)=false:=zaj (by omega);have HBS:=Lib.hid be0;rw[hbl1];clear be0 HBI;cases hlx:ltB x b with
       |true=>
        have HBN2:=Lib.hid (HBW.out HR1.out (by rw[hlx,Bool.or_true]));rw[hlx] at HLS;have HXc:=Lib.hid c0;clear hlx hb0
        go_wp2_with (first
         |(go_at_call 38;(with_reducible refine HHAt.out.mono ?_);rintro e w2 ⟨rfl,hw⟩;obtain rfl:=hw.symm)
         |(go_at_call 39;(with_reducible refine HLS.out.mono ?_);rintro e w3 ⟨rfl,hb3⟩;have HB3:=Lib.hid hb3;have c3:=((bcell hb3).1 _ _ lc0).trans HXc.out;have lc3:=zac c3;clear hb3))
        go_roundw
        case rel=>exact⟨k+1,x,some ⟨xb,xo,none⟩,cx,by omega,by go_num,by rw[hxl],by rw[hxl];exact HXI.out.kept HB3.out (Nat.le_refl _),.inr hxl,by rw[<-HBE.out,HBN2.out],bl_on HB2.out HB3.out⟩
        case measure=>simp[intOf];omega
       |false=>
        have HBN2:=Lib.hid (HBO.out (by rw[hlx,HBS.out];rfl));rw[hlx] at HLS;clear hlx hb0
        go_wp2_with (first
         |(go_at_call 38;(with_reducible refine HHAt.out.mono ?_);rintro e w2 ⟨rfl,hw⟩;obtain rfl:=hw.symm)
         |(go_at_call 39;(with_reducible refine HLS.out.mono ?_);rintro e w3 ⟨rfl,hb3⟩;have HB3:=Lib.hid hb3;clear hb3))
        go_roundw
        case rel=>exact⟨k+1,b,ab,cb,by omega,by go_num,by rw[hbl1],by rw[hbl1];exact HBI1.out.kept HB3.out (Nat.le_refl _),.inr hbl1,by rw[<-HBE.out,HBN2.out],bl_on HB2.out HB3.out⟩
        case measure=>simp[intOf];omega
     ·have HHAt:=Lib.hid (HHAS.out false (decide_eq_false hr1))
      have HBN2:=Lib.hid (HBN.out hr1);clear hr1 HHAS
      go_wp2_with (go_at_call 38;(with_reducible refine HHAt.out.mono ?_);rintro e w2 ⟨rfl,hw⟩;obtain rfl:=hw.symm)
      go_roundw
      case rel=>exact⟨k+1,b,ab,cb,by omega,by go_num,rfl,HBI.out,HBL.out,by rw[<-HBE.out,HBN2.out],HB2.out⟩
      case measure=>simp[intOf];omega
    ·obtain rfl:k=LL.length:=by omega
     have k1:¬(LL.length:Int)<(LL.length:Int):=by omega
     obtain⟨w2,rfl⟩:∃w2,w2=wr:=⟨_,rfl⟩;rw[List.drop_length] at HBE;have HBF:=Lib.hid (show bestS cs r LL []=b from HBE.out.symm);clear hbi hbl hbe hb2 HBE;by_cases hb0:b=[]
     ·subst hb0
      have b1:¬((([]:List Nat).length:Int) > 0):=by simp
      have HNO2:=Lib.hid (show ∀j,j<m+1->bestS cs r (allS cs r j) []=[] from fun j hj=>by
       rcases Nat.lt_or_ge j m with h|h
       ·exact HNO.out j h
       ·obtain rfl:j=m:=by omega
        rw[HLL.out];exact HBF.out)
      have HNS:=Lib.hid (show nextS cs LL=allS cs r (m+1) from by rw[<-HLL.out];rfl);have hNl:=HA7.out (m+1) (by omega);clear HBI HBL HYES HNONE HNO HBF;go_wp2
      go_loopw [10,9] (fun c v wq=>∃(k:Nat) (M:List (List Nat)),k<=LL.length/\c=.int .i64 (k:Int)/\NxAt w1.heap.size v M wq/\Below w1.heap.size w1 wq/\M++nextS cs (LL.drop k)=nextS cs LL) (fun c _ _=>LL.length-(intOf c).toNat)
      case atStart=>exact⟨0,[],Nat.zero_le _,rfl,NxAt.nil,HB2.out,rfl⟩
      case round=>
       obtain⟨k,M,hk,rfl,hnx,hb2,hme⟩:=hrel;obtain⟨w3,rfl⟩:∃w3,w3=wr:=⟨_,rfl⟩;obtain⟨na,nc,rfl⟩:=hnx.slice;have HNX:=Lib.hid hnx;have HB3:=Lib.hid hb2;have HME:=Lib.hid hme;by_cases hkl:k<LL.length
       ·have k1:(k:Int)<(LL.length:Int):=by omega
        obtain⟨x,hx⟩:∃x,LL[k]?=some x:=⟨_,List.getElem?_eq_getElem hkl⟩;have hxm:=List.mem_of_getElem? hx;have hxl:=HLm.out x hxm;have hxN:=HLl.out x hxm;have hla:=yaaj hxl;obtain⟨lb,lo,ax,cx,rfl,c1,hxi1⟩:=HL.out k x hx;rw[hxl] at c1 hxi1;obtain⟨xb,xo,rfl,xm1⟩:=hxi1.cell (i:=m) (x:=((lastL x:Nat):Int)) (by rw[List.getElem?_map,hla];rfl);have hzN:=hxN _ (List.mem_of_getElem? hla);have HROW:=Lib.hid (show M++(rowS x (cs (lastL x))++nextS cs (LL.drop (k+1)))=nextS cs LL from by rw[<-yaa5,<-z9z hx];exact hme);have HXI:=Lib.hid hxi1;generalize lastL x=z at *;have z1:(z:Int)<(N:Int):=by omega
        obtain⟨ga,gc,g1,gi1⟩:=(HGA.out.below HB.out) z hzN;have HGI:=Lib.hid gi1;have m1:(m:Int)<((m+1:Nat):Int):=by omega
        have c0:w3.cell? ⟨lb,lo+k,none⟩=_:=((bcell hb2).1 _ _ (zac c1)).trans c1;have xm:w3.cell? ⟨xb,xo+m,none⟩=_:=((bcell hb2).1 _ _ (zac xm1)).trans xm1;have g0:w3.cell? ⟨gb,z,none⟩=_:=((bcell hb2).1 _ _ (zac g1)).trans g1;have lc0:=zac c0;have lxm:=zac xm;have lg0:=zac g0;have hcz:=hlen z;have HC1:=Lib.hid c1;have HXM1:=Lib.hid xm1;have hlb:=zac c1;have hNl2:M.length<=1000000:=by
         have h:=congrArg List.length HME.out;rw[List.length_append,HNS.out] at h;omega
        clear hnx hb2 hme hx hxm hxN hla hxi1 gi1 hzN c1 xm1 g1 HME hNl2;go_wp2
        go_loopw [12,9] (fun c v wq=>∃(j:Nat) (M:List (List Nat)),j<=(cs z).length/\c=.int .i64 (j:Int)/\NxAt w1.heap.size v M wq/\Below w1.heap.size w1 wq/\M++(rowS x ((cs z).drop j)++nextS cs (LL.drop (k+1)))=nextS cs LL) (fun c _ _=>(cs z).length-(intOf c).toNat)
        case atStart=>exact⟨0,M,Nat.zero_le _,rfl,HNX.out,HB3.out,HROW.out⟩
        case round=>
        obtain⟨j,M4,hj,rfl,hnx,hb2,hme⟩:=hrel;clear HNX HB3 HROW c0 xm g0 lc0 lxm lg0;obtain⟨na4,nc4,rfl⟩:=hnx.slice;have HNX:=Lib.hid hnx;have HB3:=Lib.hid hb2;have HME:=Lib.hid hme;by_cases hjl:j<(cs z).length
        ·have j1:(j:Int)<((cs z).length:Int):=by omega
         obtain⟨y,hy⟩:∃y,(cs z)[j]?=some y:=⟨_,List.getElem?_eq_getElem hjl⟩;obtain⟨qb,qo,rfl,y1⟩:=HGI.out.cell (i:=j) (x:=(y:Int)) (by rw[List.getElem?_map,hy];rfl);have c0:wr.cell? ⟨lb,lo+k,none⟩=_:=((bcell hb2).1 _ _ (zac HC1.out)).trans HC1.out;have y0:wr.cell? ⟨qb,qo+j,none⟩=_:=((bcell hb2).1 _ _ (zac y1)).trans y1;have lc0:=zac c0;have ly0:=zac y0;have hlq:=zac y1;rw[z9z hy] at HME;have HHAS:=Lib.hid (fun(bb:Bool) (h:decide (y ∈ x)=bb) (W:World) (hb:Below wr.heap.size wr W)=>(z91 (.slice (some ⟨xb,xo,none⟩) (m+1) cx) _ (y:Int) bb W (by rw[List.length_map];omega) ((HXI.out.kept HB3.out (Nat.le_refl _)).kept hb (Nat.le_refl _)) (by rw[<-h];exact decide_eq_decide.2 yaa7)).mono fun e w' h=>(⟨h.1,h.2 ▸ Below.refl _ _⟩:e=.returned (.bool bb)/\Below W.heap.size W w'));have HY1:=Lib.hid y1;obtain⟨n5,hn5⟩:∃n5,wr.heap.size=n5:=⟨_,rfl⟩;have hnw:n5<=wr.heap.size:=Nat.le_of_eq hn5.symm;have hS:(fun V:World=>V.cell? ⟨lb,lo+k,none⟩=some (.slice (some ⟨xb,xo,none⟩) (m+1) cx)/\V.cell? ⟨qb,qo+j,none⟩=some (.int .i64 (y:Int))/\Below n5 wr V) wr.drew:=⟨c0,y0,(Below.refl _ _).drew⟩;dsimp only at hS;have HN5:=Lib.hid hn5;rw[hn5] at HHAS;have hnl4:M4.length<=1000000:=by
          have h:=congrArg List.length HME.out;rw[List.length_append,HNS.out] at h;omega
         clear hnx hb2 hme y1 c0 y0 lc0 ly0 hn5;by_cases hyx:y ∈ x
         ·have HHAt:=Lib.hid (HHAS.out true (decide_eq_true hyx))
          rw[yabo hyx] at HME;clear hyx HHAS hy
          go_upto_region 21 with fail
          go_region_held3 (fun V:World=>V.cell? ⟨lb,lo+k,none⟩=some (.slice (some ⟨xb,xo,none⟩) (m+1) cx)/\V.cell? ⟨qb,qo+j,none⟩=some (.int .i64 (y:Int))/\Below n5 wr V) (first|exact hS)
           (first|(go_at_call 38;with_reducible refine(HHAt.out _ hS.2.2).mono ?_;rintro ev w6 ⟨rfl,hb⟩;replace hS:=rcK hnw hb hS;clear hb))
          all_goals
           have HS6:=Lib.hid hS;clear hS;go_wp2;go_roundw
           case rel=>exact⟨j+1,M4,by omega,by go_num,HNX.out.below (by rw[HN5.out];exact HS6.out.2.2),bl_on HB3.out (by rw[HN5.out];exact HS6.out.2.2),HME.out⟩
           case measure=>simp[intOf];omega
         ·have HHAt:=Lib.hid (HHAS.out false (decide_eq_false hyx))
          rw[yabf hyx] at HME;clear hyx HHAS hy
          go_upto_region 21 with fail
          go_region_held3 (fun V:World=>V.cell? ⟨lb,lo+k,none⟩=some (.slice (some ⟨xb,xo,none⟩) (m+1) cx)/\V.cell? ⟨qb,qo+j,none⟩=some (.int .i64 (y:Int))/\Below n5 wr V) (first|exact hS)
           (first|(go_at_call 38;with_reducible refine(HHAt.out _ hS.2.2).mono ?_;rintro ev w6 ⟨rfl,hb⟩;replace hS:=rcK hnw hb hS;clear hb))
          all_goals
           have HB6:=Lib.hid (show Below wr.heap.size wr w6 from by rw[HN5.out];exact hS.2.2);have HX6:=Lib.hid (HNX.out.below HB6.out);have HW6:=Lib.hid (bl_on HB3.out HB6.out);have hw6:w1.heap.size<=w6.heap.size:=HW6.out.size;clear hS HHAt HN5 HNX HB3 HB6
           go_upto_region 22 with fail
           have hS:RyS w1 w6 (fun _=>false) w6.drew:=⟨Nat.le_refl _,HW6.out.drew,fun _=>(Below.refl _ _).drew⟩;refine yaad (by kernel_rfl) (RyT w1.heap.size w6.heap.size (.slice na4 M4.length nc4) lb lo LL.length ca k (.slice (some ⟨xb,xo,none⟩) (m+1) cx) x qb qo (cs z).length gc j y M4) RyR (RyS w1 w6) (by kernel_rfl) (by kernel_rfl) (by kernel_rfl) (fun L k i v W W' hki hk hi hcl hwt hR hT=>yabu _ _ _ _ _ _ _ _ _ _ _ _ _ _ _ _ _ L k i v W W' hki hk hi (hcl 13 12 (by kernel_rfl)) (hcl 14 13 (by kernel_rfl)) (hcl 15 14 (by kernel_rfl)) (fun e=>hwt 13 (by subst e;kernel_rfl)) hR hT) hS ?steps ?done
           case steps=>
            refine⟨?_,?_,?_,?_,?_,?_,?_,?_,?_,?_,?_,?_,?_,?_,?_,?_,trivial⟩
            ·intro L act W hL hj hS hk hd
             have p:act.eval (.tmp 9)=.slice na4 M4.length nc4:=hk 9 (yabp (i:=15) (by kernel_rfl) (hj 15 (by kernel_rfl)));clear hk hd hj;refine z9h rfl ?_;exact z9i (.slice na4 M4.length nc4) (by generalize act.eval=ρ at *;simp[go_sem,p]) (rfl) (fun _ _=>Below.refl _ _) (hS.same 0)
            ·intro L act W hL hj hS hk hd
             clear hk hd hj;refine z9h rfl ?_;exact z9x (.slice (some ⟨W.heap.size,0,none⟩) 0 0) (w':=W.alloc (.cells #[] 3)) (by generalize act.eval=ρ at *;simp[go_sem]) (⟨_,rfl⟩) (fun _ _=>zab _ _) (hS.next hw6 ((zab _ _).mono hS.size) 1)
            ·intro L act W hL hj hS hk hd
             have p:act.eval (.tmp 5)=.slice (some ⟨lb,lo,none⟩) LL.length ca:=hk 5 (z96 (by kernel_rfl));clear hk hd hj;refine z9h rfl ?_;exact z9i (.slice (some ⟨lb,lo,none⟩) LL.length ca) (by generalize act.eval=ρ at *;simp[go_sem,p]) (rfl) (fun _ _=>Below.refl _ _) (hS.same 2)
            ·intro L act W hL hj hS hk hd
             have p:act.eval (.tmp 10)=.int .i64 (k:Int):=hk 10 (z96 (by kernel_rfl));clear hk hd hj;refine z9h rfl ?_;exact z9i (.int .i64 (k:Int)) (by generalize act.eval=ρ at *;simp[go_sem,p]) (rfl) (fun _ _=>Below.refl _ _) (hS.same 3)
            ·intro L act W hL hj hS hk hd
             have p1:act.eval (.tmp 97)=.slice (some ⟨lb,lo,none⟩) LL.length ca:=hd 2 97 (by kernel_rfl);have p2:act.eval (.tmp 98)=.int .i64 (k:Int):=hd 3 98 (by kernel_rfl);clear hk hd hj;refine z9h rfl ?_;exact z9i (.pointer (some ⟨lb,lo+k,none⟩)) (by generalize act.eval=ρ at *;simp[go_sem,p1,p2,k1]) (rfl) (fun _ _=>Below.refl _ _) (hS.same 4)
            ·intro L act W hL hj hS hk hd
             have p1:act.eval (.tmp 99)=.pointer (some ⟨lb,lo+k,none⟩):=hd 4 99 (by kernel_rfl);have c:W.cell? ⟨lb,lo+k,none⟩=some (.slice (some ⟨xb,xo,none⟩) (m+1) cx):=((bcell hS.low).1 _ _ hlb).trans HC1.out;have lc:=zac c;clear hk hd hj;refine z9h rfl ?_;exact z9i (.slice (some ⟨xb,xo,none⟩) (m+1) cx) (by generalize act.eval=ρ at *;simp[go_sem,p1,c]) (rfl) (fun _ _=>Below.refl _ _) (hS.same 5)
            ·intro L act W hL hj hS hk hd
             obtain⟨B,p1⟩:=hd 1 96 (by kernel_rfl);have p2:act.eval (.tmp 100)=.slice (some ⟨xb,xo,none⟩) (m+1) cx:=hd 5 100 (by kernel_rfl);have hxi:=HXI.out.kept hS.low (Nat.le_refl _);clear hk hd hj;refine z9h rfl ?_;obtain⟨a',c',w',hr,h1,h2⟩:=yaa6 (P:=Tryz.prog) W w6.heap.size 29 29 3 ii _ 1 8 Tryz.underlying29 hii hz0 hz1 hz2 rfl B xb xo (m+1) cx (natsV x) (by simp[natsV,intsV,hxl]) (by omega) (yabq hxi) (by unfold maxLen;omega) (by omega) hS.size;exact z9w (.tmp 96) (.tmp 100) 29 rfl p1 p2 hr (fun _=>⟨a',c',by rw[hxl],by rw[hxl];exact h1⟩) (fun _ _=>zdc h2) (hS.next hw6 ((zdc h2).mono hS.size) 6)
            ·intro L act W hL hj hS hk hd
             have p:act.eval (.tmp 11)=.slice (some ⟨qb,qo,none⟩) (cs z).length gc:=hk 11 (z96 (by kernel_rfl));clear hk hd hj;refine z9h rfl ?_;exact z9i (.slice (some ⟨qb,qo,none⟩) (cs z).length gc) (by generalize act.eval=ρ at *;simp[go_sem,p]) (rfl) (fun _ _=>Below.refl _ _) (hS.same 7)
            ·intro L act W hL hj hS hk hd
             have p:act.eval (.tmp 12)=.int .i64 (j:Int):=hk 12 (z96 (by kernel_rfl));clear hk hd hj;refine z9h rfl ?_;exact z9i (.int .i64 (j:Int)) (by generalize act.eval=ρ at *;simp[go_sem,p]) (rfl) (fun _ _=>Below.refl _ _) (hS.same 8)
            ·intro L act W hL hj hS hk hd
             have p1:act.eval (.tmp 102)=.slice (some ⟨qb,qo,none⟩) (cs z).length gc:=hd 7 102 (by kernel_rfl);have p2:act.eval (.tmp 103)=.int .i64 (j:Int):=hd 8 103 (by kernel_rfl);clear hk hd hj;refine z9h rfl ?_;exact z9i (.pointer (some ⟨qb,qo+j,none⟩)) (by generalize act.eval=ρ at *;simp[go_sem,p1,p2,j1]) (rfl) (fun _ _=>Below.refl _ _) (hS.same 9)
            ·intro L act W hL hj hS hk hd
             have p1:act.eval (.tmp 104)=.pointer (some ⟨qb,qo+j,none⟩):=hd 9 104 (by kernel_rfl);have c:W.cell? ⟨qb,qo+j,none⟩=some (.int .i64 (y:Int)):=((bcell hS.low).1 _ _ hlq).trans HY1.out;have lc:=zac c;clear hk hd hj;refine z9h rfl ?_;exact z9i (.int .i64 (y:Int)) (by generalize act.eval=ρ at *;simp[go_sem,p1,c]) (rfl) (fun _ _=>Below.refl _ _) (hS.same 10)
            ·intro L act W hL hj hS hk hd
             have p:act.eval (.tmp 105)=.int .i64 (y:Int):=hd 10 105 (by kernel_rfl);clear hk hd hj;refine z9h rfl ?_;exact z9x (.slice (some ⟨W.heap.size,0,none⟩) 1 1) (w':=W.alloc (.cells #[.int .i64 (y:Int)] 3)) (by generalize act.eval=ρ at *;simp[go_sem,p]) (fun _=>⟨_,rfl,z95 W w6.heap.size _ hS.size⟩) (fun _ _=>zab _ _) (hS.next hw6 ((zab _ _).mono hS.size) 11)
            ·intro L act W hL hj hS hk hd
             obtain⟨a6,c6,p1,h6⟩:=hd 6 101 (by kernel_rfl) hL;obtain⟨E,p2,hE⟩:=hd 11 106 (by kernel_rfl) hL;rw[p1] at h6;rw[p2] at hE;clear hk hd hj;refine z9h rfl ?_;obtain⟨v',w',hr,h1,h2,-,-⟩:=run_append_own_at (P:=Tryz.prog) W w6.heap.size 29 29 3 ii _ 1 8 Tryz.underlying29 hii hz0 hz1 hz2 rfl (by decide) (.slice a6 x.length c6) x.length (natsV x) h6 ⟨E,0,none⟩ 1 1 [.int .i64 (y:Int)] rfl (fun j u hu=>hE.cells rfl j u hu) (by simp[Value.oneCell']) (by unfold maxLen;omega) (by omega) hS.size;obtain⟨a',c',rfl⟩:=zad h1;have hb:Below w6.heap.size W w':=(Below.refl _ _).grown h2 hS.size (fun g e=>(h6.lt g e).1);exact z9w (.tmp 101) (.tmp 106) 29 rfl p1 p2 hr (fun _=>⟨a',c',rfl,h1⟩) (fun e=>absurd rfl e) (hS.next hw6 hb 12)
            ·intro L act W hL hj hS hk hd
             have e14:L 14=false:=hj 14 (by kernel_rfl);obtain⟨a6,c6,p,h6⟩:=hd 12 107 (by kernel_rfl) e14;rw[p] at h6;clear hk hd hj;refine z9h rfl ?_;exact z9x (.slice (some ⟨W.heap.size,0,none⟩) 1 1) (w':=W.alloc (.cells #[.slice a6 (x.length+1) c6] 29)) (by generalize act.eval=ρ at *;simp[go_sem,p]) (fun _=>⟨_,a6,c6,rfl,Bl.new _ _ _,zaa h6 (zab _ _)⟩) (fun _ _=>zab _ _) (hS.next hw6 ((zab _ _).mono hS.size) 13)
            ·intro L act W hL hj hS hk hd
             have p1:act.eval (.tmp 95)=.slice na4 M4.length nc4:=hd 0 95 (by kernel_rfl);obtain⟨E,a6,c6,p2,hE,h6⟩:=hd 13 108 (by kernel_rfl) hL;obtain⟨qs,q1,q2⟩:=HX6.out.below (hS.mid hL);clear hk hd hj;refine z9h rfl ?_;obtain⟨v',w',hr,h1,h2,-,-⟩:=run_append_own_at (P:=Tryz.prog) W w1.heap.size 33 33 29 jj _ 1 24 Tryz.underlying33 hjj hy0 hy1 hy2 rfl (by decide) (.slice na4 M4.length nc4) M4.length qs q1 ⟨E,0,none⟩ 1 1 [.slice a6 (x.length+1) c6] rfl (Bl.news hE) (by simp[Value.oneCell']) (by unfold maxLen;omega) (by omega) (Nat.le_trans hw6 hS.size);obtain⟨a',c',rfl⟩:=zad h1;have hb:Below w1.heap.size W w':=(Below.refl _ _).grown h2 (Nat.le_trans hw6 hS.size) (fun g e=>(q1.lt g e).1);exact z9w (.tmp 95) (.tmp 108) 33 rfl p1 p2 hr ⟨a',c',rfl,yabs q1 q2 (zax (by rw[List.length_append,zjk];exact h6) hw6) h1 h2⟩ (fun _ e=>absurd rfl e) (hS.last hb)
            ·intro L act W hL hj hS hk hd
             obtain⟨a',c',p,h1⟩:=hd 14 109 (by kernel_rfl);rw[p] at h1;clear hk hd hj;refine z9h rfl ?_;exact z9i (.slice a' (M4.length+1) c') (by generalize act.eval=ρ at *;simp[go_sem,p]) (⟨a',c',rfl,h1⟩) (fun _ _=>Below.refl _ _) (hS.same 15)
           case done=>
            intro vals w7 L hL hv hS;obtain⟨a7,c7,e7,hn7⟩:=hv 15 (by simp);rw[e7] at hn7;have HN7:=Lib.hid hn7;have HB7:=Lib.hid hS.low;simp only[fill,if_true,Act.put,List.setIfInBounds_toArray,List.set_cons_zero,List.set_cons_succ,Nat.zero_add,Nat.reduceAdd];rw[e7];clear hv e7 hn7 hS hL HX6 HW6;go_wp2;go_roundw
            case rel=>exact⟨j+1,M4++[x++[y]],by omega,by go_num,HN7.out,HB7.out,by rw[List.append_assoc];exact HME.out⟩
            case measure=>simp[intOf];omega
        ·obtain rfl:j=(cs z).length:=by omega
         have j1:¬((cs z).length:Int)<((cs z).length:Int):=by omega
         rw[List.drop_length] at HME;have HME2:=Lib.hid (show M4++nextS cs (LL.drop (k+1))=nextS cs LL from HME.out);clear hnx hb2 hme HME;go_wp2;go_roundw
         case rel=>exact⟨k+1,M4,by omega,by go_num,HNX.out,HB3.out,HME2.out⟩
         case measure=>simp[intOf];omega
       ·obtain rfl:k=LL.length:=by omega
        have k1:¬(LL.length:Int)<(LL.length:Int):=by omega
        rw[List.drop_length] at HME;have HM:=Lib.hid (show M=allS cs r (m+1) from by rw[<-HNS.out,<-HME.out];exact(List.append_nil M).symm);have hma:((m:Int)+1)+1=(((m+1:Nat):Int)+1):=by omega
        have n4:IntKind.i64.wrap ((m:Int)+1+1)=(m:Int)+1+1:=IntWalk.i64_in _ (by omega);clear hnx hb2 hme HME;go_wp2;go_roundw
        case rel=>exact⟨m+1,na,nc,by omega,by go_num,by rw[<-HM.out],by rw[<-HM.out];exact HNX.out.ls,bl_on HB.out HB3.out,HNO2.out⟩
        case measure=>simp[intOf];omega
     ·have hbp:0<b.length:=by
       cases b with
       |nil=>exact absurd rfl hb0
       |cons y t=>simp
      have b1:(0:Int)<(b.length:Int):=by omega
      have HCY:=Lib.hid (HYES.out m HNO.out b (by rw[HLL.out];exact HBF.out) hb0);go_wp2;go_ret;exact⟨ab,cb,by rw[HCY.out];rfl,by rw[HCY.out];exact HBI.out,bl_on HB.out HB2.out⟩
  ·obtain rfl:m=N:=by omega
   have n1:¬(m:Int)+1<=(m:Int):=by omega
   have HCY:=Lib.hid (HNONE.out HNO.out);clear HNO;go_wp2;go_ret;exact⟨none,0,by rw[HCY.out];rfl,by rw[HCY.out];exact⟨_,_,rfl,.inl rfl⟩,HB.out⟩
end
end Go.Proofs.YthhppmehhdlmnaaGreatDoor
