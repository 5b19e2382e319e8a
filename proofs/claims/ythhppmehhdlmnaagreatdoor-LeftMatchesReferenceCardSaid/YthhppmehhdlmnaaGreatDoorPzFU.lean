/- flow: newQueue; usersOf. flow: usersOf. flow: usersOf, the walk. flow.Of: the search ends with the least facts; flow.Rule. -/
import Derived.Test.YthhppmehhdlmnaaGreatDoorPzFQ
import Derived.Test.YthhppmehhdlmnaaGreatDoorPzFR
set_option maxRecDepth 100000
set_option maxHeartbeats 8000000
namespace Go.Proofs.YthhppmehhdlmnaaGreatDoor
open Go.RowKit
def NewQ (n:Nat)(w:World)(e:Ending)(w':World):Prop:=∃(m:Nat->Bool) (l:List Int),e=.returned (.pointer (some ⟨w.heap.size+1,0,none⟩))/\Qs w.heap.size n (w.heap.size+1) w.heap.size m l w'/\(∀j,j<n->m j=true)/\Below w.heap.size w w'
theorem z0w (n:Nat)(w:World)(hn:n<=100000):Calls Tryz.prog 74 #[.int .i64 (n:Int)] w (NewQ n w):=by
 have hmk:=fun w=>run_make_row' (P:=Tryz.prog) 58 4 (.bool false) 1 Tryz.underlying58 Tryz.infoBool rfl .i64 .i64 n (by omega) (by omega) w
 go_enter Tryz.func74,Tryz.ntmps74;go_wp2
 go_loopw [10] (fun c wr=>∃(k:Nat) (m:Nat->Bool) (l:List Int),k<=n/\c=.int .i64 (k:Int)/\Qs w.heap.size n (w.heap.size+1) w.heap.size m l wr/\(∀j,j<k->m j=true)/\Below w.heap.size w wr) (fun c _=>n-(intOf c).toNat)
 case atStart=>
  refine⟨0,fun _=>false,[],Nat.zero_le _,rfl,⟨⟨none,0,Bl.new' (by simp),World.ownsRow_nil _ _ _ _⟩,⟨madeCells #[.bool false] n,Bl.past (Bl.new w _ _),fun j hj=>?_⟩,Nat.le_succ _,Nat.le_refl _,QI.nil n⟩,fun j hj=>absurd hj (Nat.not_lt_zero _),zat _ _ _⟩;simp[madeCells,hj,Nat.mod_one]
 case round=>
  obtain⟨k,m,l,hk,rfl,hq,hm,hb⟩:=hrel;have HQ:=Lib.hid hq;have HM:=Lib.hid hm;have HB:=Lib.hid hb;clear hq hm hb;by_cases hlt:k<n
  ·have k1:(k:Int)<(n:Int):=by omega
   go_wp2_with (go_at_call 75;(with_reducible refine(zq9 _ n _ _ k m l _ HQ.out hlt hn).mono ?_);rintro e w2 ⟨⟨v2,rfl⟩,l2,hq2,hk2⟩;have HQ2:=Lib.hid hq2;have HB2:=Lib.hid (HB.out.trans (hk2.below (Nat.le_succ _) (Nat.le_refl _) HB.out.size));clear hq2 hk2)
   go_roundw
   case rel=>exact⟨k+1,ins m k,l2,by omega,by go_num,HQ2.out,fun j hj=>by by_cases e:j=k;subst e;exact zcf m j;exact zby (HM.out j (by omega)),HB2.out⟩
   case measure=>simp[intOf];omega
  ·obtain rfl:k=n:=by omega
   have k1:¬(k:Int)<(k:Int):=by omega
   go_wp2;go_ret;exact⟨m,l,rfl,HQ.out,HM.out,HB.out⟩
structure URows (base n UB:Nat) (U:Nat->List Int) (V:Nat->Value) (W:World):Prop where
 bl:∃cs,Bl W UB 29 cs/\∀i,i<n->cs[i]?=some (V i)
 row:∀i,i<n->W.ownsRow base 3 1 (V i) (U i).length (intsV (U i))
 apart:∀i j,i<n->j<n->i≠j->(V i).ownBlock=none∨(V i).ownBlock≠(V j).ownBlock
section
variable {base n UB:Nat} {U:Nat->List Int} {V:Nat->Value} {W W':World}
theorem URows.below (h:URows base n UB U V W)(hb:Below W.heap.size W W'):URows base n UB U V W':=by
 obtain⟨⟨cs,h1,h2⟩,h3,h4⟩:=h;exact⟨⟨cs,h1.below hb,h2⟩,fun i hi=>zaa (h3 i hi) hb,h4⟩
theorem URows.lt (h:URows base n UB U V W):UB<W.heap.size:=by obtain⟨⟨cs,h1,-⟩,-⟩:=h;exact h1.lt
theorem URows.cell {i:Nat}(h:URows base n UB U V W)(hi:i<n):W.cell? ⟨UB,i,none⟩=some (V i):=by obtain⟨⟨cs,h1,h2⟩,-⟩:=h;exact h1.cell (h2 i hi)
theorem URows.free (h:URows base n UB U V W)(o:Nat):W.frozen? ⟨UB,o,none⟩=false:=by obtain⟨⟨cs,h1,h2⟩,-⟩:=h;exact h1.free o
def updU {α:Type}(U:Nat->α)(k:Nat)(x:α)(j:Nat):α:=if j=k then x else U j
theorem URows.add {k:Nat}{x:Int}{v5:Value}(h:URows base n UB U V W)(hk:k<n)(ho:W'.ownsRow base 3 1 v5 ((U k).length+1) (intsV (U k)++[.int .i64 x]))(hg:W.grownBy W' (V k).ownBlock)
  (hv:v5.ownBlock=(V k).ownBlock∨v5.ownBlock=some W.heap.size):URows base n UB (updU U k (U k++[x])) (updU V k v5) (W'.setCell ⟨UB,k,none⟩ v5):=by
 obtain⟨⟨cs,h1,h2⟩,h3,h4⟩:=h;have h1':Bl W' UB 29 cs:=h1.grown hg (fun g e=>by obtain⟨c,fz,hc⟩:=Lib.ownsRow_kind (h3 k hk) g e;exact⟨c,3,fz,hc,by decide⟩);have hlt:∀i,i<n->∀g,(V i).ownBlock=some g->g<W.heap.size:=fun i hi g e=>((h3 i hi).lt g e).2
 refine⟨⟨_,h1'.set' v5,fun i hi=>?_⟩,fun i hi=>?_,fun i j hi hj hne=>?_⟩
 ·unfold updU
  by_cases e:i=k
  ·subst e
   rw[if_pos rfl];exact Array.getElem?_setIfInBounds_self_of_lt (Array.getElem?_eq_some_iff.1 (h2 i hi)).1
  ·rw[if_neg e,Array.getElem?_setIfInBounds_ne (by omega)]
   exact h2 i hi
 ·unfold updU
  by_cases e:i=k
  ·subst e
   rw[if_pos rfl,if_pos rfl,List.length_append,zbb];exact ownsRow_setCell_other ho (a:=⟨UB,i,none⟩) (za9 ho ⟨_,_,h1'⟩ (by decide)) _
  ·rw[if_neg e,if_neg e]
   have hr:W'.ownsRow base 3 1 (V i) (U i).length (intsV (U i)):=(h3 i hi).kept hg (h4 i k hi hk e);exact ownsRow_setCell_other hr (a:=⟨UB,k,none⟩) (za9 hr ⟨_,_,h1'⟩ (by decide)) _
 ·unfold updU
  by_cases e:i=k
  ·subst e
   rw[if_pos rfl,if_neg (by omega)];rcases hv with hv|hv
   ·rw[hv];exact h4 i j hi hj hne
   ·right
    rw[hv];intro e2;have:=hlt j hj _ e2.symm;omega
  ·rw[if_neg e]
   by_cases e2:j=k
   ·subst e2
    rw[if_pos rfl];rcases hv with hv|hv
    ·rw[hv];exact h4 i j hi hj hne
    ·cases hvi:(V i).ownBlock with
     |none=>left;rfl
     |some g=>
      right;rw[hv];intro e3;have:=hlt i hi g hvi;injection e3 with e3;omega
   ·rw[if_neg e2];exact h4 i j hi hj hne
end
theorem z0x {base n UB k:Nat}{x:Int}{U:Nat->List Int}{V:Nat->Value}{v v5:Value}{w w1 w5:World}(h:URows base n UB U V w)(hb:Below w.heap.size w w1)(hk:k<n)(hv:V k=v)
  (ho:w5.ownsRow base 3 1 v5 ((U k).length+1) (intsV (U k)++[.int .i64 x])) (hg:w1.grownBy w5 v.ownBlock) (ht:v5.ownBlock=v.ownBlock∨v5.ownBlock=some w1.heap.size) :
  ∃V',URows base n UB (updU U k (U k++[x])) V' (w5.setCell ⟨UB,k,none⟩ v5)/\Kp base UB UB 3 w (w5.setCell ⟨UB,k,none⟩ v5):=by
 have h1:=h.below hb;rw[<-hv] at hg ht;obtain⟨cs,hB,-⟩:=id h1.bl;have hkind:∀g,(V k).ownBlock=some g->base<=g/\∃c fz,w1.heap[g]?=some (.cells c 3 fz):=fun g e=>by
  obtain⟨c,fz,hc⟩:=Lib.ownsRow_kind (h1.row k hk) g e;exact⟨((h1.row k hk).lt g e).1,c,fz,hc⟩
 have hB5:=hB.grown hg (fun g e=>by obtain⟨-,c,fz,hc⟩:=hkind g e;exact⟨c,3,fz,hc,by decide⟩);exact⟨_,h1.add hk ho hg ht,((Kp.of_below hb).trans (Kp.grown hg hkind)).trans (Kp.set hB5 (.inl rfl) _)⟩
theorem z0y (base n UB VB k:Nat)(x:Int)(U:Nat->List Int)(V:Nat->Value)(w:World)(hR:URows base n UB U V w)(hV:Bl w VB 33 #[.slice (some ⟨UB,0,none⟩) n n])(hk:k<n)(hl:(U k).length<=900000)(hbs:base<=w.heap.size) :
  Calls Tryz.prog 111 #[.int .i64 (k:Int),.int .i64 x,.pointer (some ⟨VB,0,none⟩)] w fun e w'=>(∃v,e=.returned v)/\∃V',URows base n UB (updU U k (U k++[x])) V' w'/\Kp base UB UB 3 w w':=by
 obtain⟨ii,hii,hz0,hz1,hz2⟩:=info_parts za3;have hrow:=hR.row k hk;obtain⟨va,vc,hv⟩:=zad hrow;have c0:w.cell? ⟨VB,0,none⟩=some (.slice (some ⟨UB,0,none⟩) n n):=hV.cell (o:=0) rfl;have cu:=hR.cell hk;have fu:=hR.free k;have lu:=hR.lt;have lv:=hV.lt;rw[hv] at hrow cu;have k0:(0:Int)<=(k:Int):=by omega
 have k1:(k:Int)<(n:Int):=by omega
 obtain⟨cs,hUB,-⟩:=id hR.bl;have HUB:=Lib.hid hUB;have HO:=Lib.hid hrow;have HR:=Lib.hid hR;have HVV:=Lib.hid hv;have HV:=Lib.hid hV;clear hR hV hrow hv hUB;go_enter Tryz.func111,Tryz.ntmps111;go_wp2
 go_region_law (refine zaw (by rfl) _ _ 29 (by rfl) base 3 ii _ 1 8 Tryz.underlying29 hii hz0 hz1 hz2 (by rfl) (by decide) (.slice va (U k).length vc) (U k).length _ (by simp[Act.eval]) (by refine zaa HO.out ?_;repeat (first|exact Below.refl _ _|refine Below.drew ?_|refine zae ?_ rfl _)) _ 1 1 [.int .i64 x] (by simp[Act.eval];rfl) (by rfl) (by refine Bl.news (t:=3) ?_;repeat (first|(refine Bl.new' ?_;simp;done)|refine Bl.drew ?_|refine Bl.past ?_)) (by simp[Value.oneCell']) (by unfold maxLen;omega) (by omega) (by simp;omega) ?_;intro a5 c5 w5 hown5 hgrow5 hat5;have hbw5:Hid (Below w.heap.size w (w.alloc (.cells #[.int .i64 x] 3)).drew):=Lib.hid (Below.drew (zae (Below.refl _ _) rfl _));have hv5:=(HV.out.below hbw5.out).grown hgrow5 (fun g e=>by obtain⟨c,fz,hc⟩:=Lib.ownsRow_kind (zaa HO.out hbw5.out) g e;exact⟨c,3,fz,hc,by decide⟩);have hu5:=(HUB.out.below hbw5.out).grown hgrow5 (fun g e=>by obtain⟨c,fz,hc⟩:=Lib.ownsRow_kind (zaa HO.out hbw5.out) g e;exact⟨c,3,fz,hc,by decide⟩);have x0:w5.cell? ⟨VB,0,none⟩=some (.slice (some ⟨UB,0,none⟩) n n):=hv5.cell (o:=0) rfl;have xu:=World.cell?_of_block (a:=⟨UB,k,none⟩) (show w5.heap[UB]?=w.heap[UB]? by unfold Bl at hu5;rw[hu5];exact HUB.out.symm);rw[cu] at xu;have xf:=hu5.free;have HO5:=Lib.hid hown5;have HG5:=Lib.hid hgrow5;have HT5:=Lib.hid hat5;clear hown5 hgrow5 hat5 hv5 hu5)
 all_goals
  go_wp2
  go_end0
  exact⟨⟨_,rfl⟩,z0x HR.out hbw5.out hk HVV.out HO5.out HG5.out HT5.out⟩
structure UInv (rs:List PR) (ns:List PN) (U:Nat->List Int) (k:Nat) (t:Nat) (c:Nat):Prop where
 all:∀(j i:Nat) (m:PN),j<k->ns[j]?=some m->Dep rs m i->i<ns.length->(j:Int) ∈ U i
 now:∀(m:PN),ns[k]?=some m->0<t->(m.op=2->∀i:Nat,rootF rs m.rule=(i:Int)->i<ns.length->(k:Int) ∈ U i)/\∀(p i:Nat),p+1<t->m.kids[p]?=some (i:Int)->i<ns.length->(k:Int) ∈ U i
 lt:∀i x,x ∈ U i->∃j:Nat,x=(j:Int)/\j<ns.length
 len:∀i,(U i).length<=c
theorem zli {U:Nat->List Int}{k i:Nat}{x y:Int}(h:y ∈ U i):y ∈ updU U k (U k++[x]) i:=by
 unfold updU;by_cases e:i=k
 ·subst e;rw[if_pos rfl];exact List.mem_append_left _ h
 ·rw[if_neg e];exact h
theorem zra (U:Nat->List Int)(k:Nat)(x:Int):x ∈ updU U k (U k++[x]) k:=by unfold updU;rw[if_pos rfl];simp
theorem z0z {U:Nat->List Int}{k i:Nat}{x y:Int}(h:y ∈ updU U k (U k++[x]) i):y ∈ U i∨y=x:=by
 unfold updU at h;by_cases e:i=k
 ·subst e;rw[if_pos rfl] at h;simpa using h
 ·rw[if_neg e] at h;exact .inl h
theorem UInv.start (rs:List PR)(ns:List PN):UInv rs ns (fun _=>[]) 0 0 0:=⟨fun j i m h=>absurd h (Nat.not_lt_zero _),fun m _ h=>absurd h (Nat.lt_irrefl _),fun i x h=>by simp at h,fun i=>Nat.le_refl _⟩
theorem UInv.more {rs:List PR}{ns:List PN}{U:Nat->List Int}{k t c i:Nat}(h:UInv rs ns U k t c)(hk:k<ns.length):UInv rs ns (updU U i (U i++[(k:Int)])) k t (c+1):=by
 refine⟨fun j p m a b d e=>zli (h.all j p m a b d e),fun m hm ht=>⟨fun a p b d=>zli ((h.now m hm ht).1 a p b d),fun p q a b d=>zli ((h.now m hm ht).2 p q a b d)⟩,fun p x hx=>?_,fun p=>?_⟩
 ·rcases z0z hx with hx|hx
  ·exact h.lt p x hx
  ·exact⟨k,hx,hk⟩
 ·unfold updU
  split
  ·rw[List.length_append];have:=h.len i;simp;omega
  ·have:=h.len p;omega
theorem UInv.grow {rs:List PR}{ns:List PN}{U:Nat->List Int}{k t c c':Nat}(h:UInv rs ns U k t c)(hc:c<=c'):UInv rs ns U k t c':=⟨h.all,h.now,h.lt,fun i=>Nat.le_trans (h.len i) hc⟩
theorem UInv.call {rs:List PR}{ns:List PN}{U:Nat->List Int}{k c i:Nat}{m:PN}(h:UInv rs ns U k 0 c)(hm:ns[k]?=some m)(hr:rootF rs m.rule=(i:Int)):UInv rs ns (updU U i (U i++[(k:Int)])) k 1 (c+1):=by
 have h1:=h.more (i:=i) (List.getElem?_eq_some_iff.1 hm).1;refine⟨h1.all,fun m' hm' _=>?_,h1.lt,h1.len⟩;rw[hm] at hm';obtain rfl:=Option.some.inj hm';refine⟨fun _ p hp _=>?_,fun p q hp=>absurd hp (by omega)⟩;have:i=p:=by rw[hr] at hp;omega
 subst this;exact zra U i k
theorem UInv.nocall {rs:List PR}{ns:List PN}{U:Nat->List Int}{k c:Nat}{m:PN}(h:UInv rs ns U k 0 c)(hm:ns[k]?=some m)(h2:m.op≠2):UInv rs ns U k 1 c:=by
 refine⟨h.all,fun m' hm' _=>?_,h.lt,h.len⟩;rw[hm] at hm';obtain rfl:=Option.some.inj hm';exact⟨fun e=>absurd e h2,fun p q hp=>absurd hp (by omega)⟩
theorem UInv.kid {rs:List PR}{ns:List PN}{U:Nat->List Int}{k t c i:Nat}{m:PN}(h:UInv rs ns U k (t+1) c)(hm:ns[k]?=some m)(hi:m.kids[t]?=some (i:Int)):UInv rs ns (updU U i (U i++[(k:Int)])) k (t+2) (c+1):=by
 have h1:=h.more (i:=i) (List.getElem?_eq_some_iff.1 hm).1;refine⟨h1.all,fun m' hm' _=>?_,h1.lt,h1.len⟩;obtain⟨g1,g2⟩:=h1.now m' hm' (by omega);refine⟨g1,fun p q hp hq hl=>?_⟩;by_cases e:p=t
 ·subst e
  rw[hm] at hm';obtain rfl:=Option.some.inj hm';rw[hi] at hq;have:i=q:=by injection hq with hq;omega
  subst this;exact zra U i k
 ·exact g2 p q (by omega) hq hl
theorem UInv.next {rs:List PR}{ns:List PN}{U:Nat->List Int}{k c:Nat}{m:PN}(hm:ns[k]?=some m)(h:UInv rs ns U k (m.kids.length+1) c):UInv rs ns U (k+1) 0 c:=by
 refine⟨fun j i m' hj hm' hd hi=>?_,fun _ _ h=>absurd h (Nat.lt_irrefl _),h.lt,h.len⟩;by_cases e:j=k
 ·subst e
  rw[hm] at hm';obtain rfl:=Option.some.inj hm';obtain⟨g1,g2⟩:=h.now m hm (by omega);rcases hd with⟨d1,d2⟩|d
  ·exact g1 d1 i d2 hi
  ·obtain⟨p,hp⟩:=List.getElem?_of_mem d
   exact g2 p i (by have:=(List.getElem?_eq_some_iff.1 hp).1;omega) hp hi
 ·exact h.all j i m' (by omega) hm' hd hi
theorem zrb:(Tryz.prog.info? 29).map (fun i=>(i.zero,i.size,i.bytes))=some (some (.slice none 0 0),1,24):=by kernel_rfl
structure UsSt (rs:List PR) (ns:List PN) (rv nv:Value) (w:World) (k t c:Nat) (W:World):Prop where
 lo:Below w.heap.size w W
 g:Bl W w.heap.size 25 #[rv,nv]
 v:Bl W (w.heap.size+2) 33 #[.slice (some ⟨w.heap.size+1,0,none⟩) ns.length ns.length]
 u:∃U V,URows w.heap.size ns.length (w.heap.size+1) U V W/\UInv rs ns U k t c
theorem UsSt.below {rs:List PR}{ns:List PN}{rv nv:Value}{w W W':World}{k t c:Nat}(h:UsSt rs ns rv nv w k t c W)(hb:Below W.heap.size W W'):UsSt rs ns rv nv w k t c W':=by
 obtain⟨h1,h2,h3,U,V,h4,h5⟩:=h;exact⟨bl_on h1 hb,h2.below hb,h3.below hb,U,V,h4.below hb,h5⟩
theorem UsSt.use {rs:List PR}{ns:List PN}{rv nv:Value}{w W:World}{k t t' c i:Nat}(h:UsSt rs ns rv nv w k t c W)(hi:i<ns.length)(hc:c<=900000)(hk:∀U,UInv rs ns U k t c->UInv rs ns (updU U i (U i++[(k:Int)])) k t' (c+1)) :
  Calls Tryz.prog 111 #[.int .i64 (i:Int),.int .i64 (k:Int),.pointer (some ⟨w.heap.size+2,0,none⟩)] W fun e w'=>(∃v,e=.returned v)/\UsSt rs ns rv nv w k t' (c+1) w'/\Kp w.heap.size (w.heap.size+1) (w.heap.size+1) 3 W w':=by
 obtain⟨h1,h2,h3,U,V,h4,h5⟩:=h;refine(z0y w.heap.size ns.length (w.heap.size+1) (w.heap.size+2) i (k:Int) U V W h4 h3 hi (Nat.le_trans (h5.len i) hc) h1.size).mono fun e w' ⟨he,V',g1,g2⟩=>⟨he,⟨h1.trans (g2.below (Nat.le_succ _) (Nat.le_succ _) h1.size),g2.bl h2 (by omega) (by omega) (by decide),g2.bl h3 (by omega) (by omega) (by decide),_,V',g1,hk U h5⟩,g2⟩
def zwe (rs:List PR)(ns:List PN)(w:World)(e:Ending)(w':World):Prop:=∃U V,e=.returned (.slice (some ⟨w.heap.size+1,0,none⟩) ns.length ns.length)/\URows w.heap.size ns.length (w.heap.size+1) U V w'/\UInv rs ns U ns.length 0 30000/\Below w.heap.size w w'
theorem zs8 (rv nv:Value)(rs:List PR)(ns:List PN)(w:World)(hR:RulesIn w rv rs)(hN:NodesAt w nv ns)(hO:FlowOk rs ns) :
  Calls Tryz.prog 73 #[.agg #[rv,nv]] w (zwe rs ns w):=by
 have hs:=hO.nl;obtain⟨-,na,nc,rfl,hna⟩:=id hN;have HR:=Lib.hid (fun(W:World) (hb:Below w.heap.size w W) (r:Int)=>zmy rv (.slice na ns.length nc) rs r W (hR.kept hb (Nat.le_refl _)));obtain⟨-,ra,rc,rfl,-⟩:=id hR;have hmk:=fun w=>run_make_row' (P:=Tryz.prog) 33 29 (.slice none 0 0) 24 Tryz.underlying33 zrb rfl .i64 .i64 ns.length (by omega) (by omega) w
 have hmf:∀(fn:Fn) (first cap:Array Value) (w:World),(Instr.makeFunc fn first cap).run Tryz.prog w=.ok (.func fn first cap) w:=fun _ _ _ _=>rfl
 clear hR hN;go_enter Tryz.func73,Tryz.ntmps73;go_wp2
 go_loopw [17] (fun d wr=>∃k:Nat,k<=ns.length/\d=.int .i64 (k:Int)/\UsSt rs ns (.slice ra rs.length rc) (.slice na ns.length nc) w k 0 (k*61) wr) (fun d _=>ns.length-(intOf d).toNat)
 case atStart=>
  refine⟨0,Nat.zero_le _,rfl,zar (zat _ _ _),Bl.past (Bl.past (Bl.new w _ _)),Bl.new' (by simp),fun _=>[],fun _=>.slice none 0 0,⟨⟨madeCells #[.slice none 0 0] ns.length,Bl.past (Bl.new' (by simp)),fun i hi=>?_⟩,fun i hi=>World.ownsRow_nil _ _ _ _,fun i j _ _ _=>.inl rfl⟩,UInv.start rs ns⟩;simp[madeCells,hi,Nat.mod_one]
 case round=>
  obtain⟨k,hk,rfl,hq⟩:=hrel;have g0:wr.cell? ⟨w.heap.size,0,none⟩=some (.slice ra rs.length rc):=hq.g.cell (o:=0) rfl;have g1:wr.cell? ⟨w.heap.size,1,none⟩=some (.slice na ns.length nc):=hq.g.cell (o:=1) rfl;by_cases hlt:k<ns.length
  ·have k1:(k:Int)<(ns.length:Int):=by omega
   obtain⟨n,hn⟩:∃n,ns[k]?=some n:=⟨_,List.getElem?_eq_getElem hlt⟩;rcases hna with h0|⟨nb,no,rfl,hca⟩
   ·rw[h0] at hlt;exact absurd hlt (Nat.not_lt_zero _)
   obtain⟨kv,c0,c1,c2,c3,c4,c5,c6,hki,-⟩:=hca k n hn;have lr:=zac c0;rw[<-(bcell hq.lo).1 _ _ lr] at c0 c1 c2 c3 c4 c5 c6;obtain⟨ka,kc,rfl,hkc⟩:=hki;have hI:=hO.ok n (List.mem_of_getElem? hn);have HKID:=Lib.hid hI.kid;have HKL:=Lib.hid (hO.kl n (List.mem_of_getElem? hn));have HN:=Lib.hid hn;have lw:nb<wr.heap.size:=Nat.lt_of_lt_of_le lr hq.lo.size;have HQ1:=Lib.hid (hq.below (zab wr (.cells #[.int .i64 n.op,.slice ka n.kids.length kc,.int .i64 n.rule,.int .u64 n.s0,.int .u64 n.s1,.int .u64 n.s2,.int .u64 n.s3] 51)));have HNB:=Lib.hid (Bl.new wr 51 #[.int .i64 n.op,.slice ka n.kids.length kc,.int .i64 n.rule,.int .u64 n.s0,.int .u64 n.s1,.int .u64 n.s2,.int .u64 n.s3]);have hks:k*61<=24400:=by omega
   have hne:wr.heap.size≠w.heap.size+1:=by have:=hq.v.lt;omega
   have HNE:=Lib.hid hne;have lg:=hq.g.lt;have lv2:=hq.v.lt;clear hca hn hq hne;by_cases e2:n.op=2
   ·have q2:(n.op == 2)=true:=by rw[e2];rfl
    obtain⟨r,x,hr,hx,x0,x1⟩:=hI.root e2;obtain⟨i,hi⟩:∃i:Nat,x.root=i:=⟨x.root.toNat,by omega⟩;have hroot:rootF rs n.rule=(i:Int):=by rw[hr,zcn hx,hi]
    have hil:i<ns.length:=by omega
    have HRT:=Lib.hid hroot;rw[e2] at c0 HQ1 HNB;have HE2:=Lib.hid e2;clear hI hr hx x0 x1 hi hroot e2 q2
    go_wp2_with (first
     |(go_at_call 112;(with_reducible refine(HR.out _ HQ1.out.lo n.rule).mono ?_);rintro e w5 ⟨rfl,hb⟩;rw[HRT.out];have HQ5:=Lib.hid (HQ1.out.below hb);have HNB5:=Lib.hid (HNB.out.below hb);clear hb)
     |(go_at_call 111;(with_reducible refine(HQ5.out.use (t':=1) (i:=i) hil (by omega) (fun U h=>h.call HN.out HRT.out)).mono ?_);rintro e w6 ⟨⟨v6,rfl⟩,hu6,hk6⟩;have n6:=hk6.bl HNB5.out HNE.out HNE.out (by decide);have b1:w6.cell? ⟨wr.heap.size,1,none⟩=some (.slice ka n.kids.length kc):=n6.cell (o:=1) rfl;have ln:=n6.lt;have HU8:=Lib.hid hu6;clear hu6 hk6 n6))
    go_loopw [35] (fun d wx=>∃t:Nat,t<=n.kids.length/\d=.int .i64 (t:Int)/\UsSt rs ns (.slice ra rs.length rc) (.slice (some ⟨nb,no,none⟩) ns.length nc) w k (t+1) (k*61+1+t) wx) (fun d _=>n.kids.length-(intOf d).toNat)
    case atStart=>exact⟨0,Nat.zero_le _,rfl,HU8.out⟩
    case round=>
     obtain⟨t,ht,rfl,hq⟩:=hrel;by_cases htl:t<n.kids.length
     ·have t1:(t:Int)<(n.kids.length:Int):=by omega
      obtain⟨x,hx⟩:∃x,n.kids[t]?=some x:=⟨_,List.getElem?_eq_getElem htl⟩;have hkl:=HKL.out;obtain⟨x0,x1⟩:=HKID.out x (List.mem_of_getElem? hx);obtain⟨i,rfl⟩:∃i:Nat,x=i:=⟨x.toNat,by omega⟩;rcases hkc with h0|⟨kb,ko,rfl,hkc⟩
      ·rw[h0] at htl;exact absurd htl (Nat.not_lt_zero _)
      have kx:=hkc t _ hx;have lk:=zac kx;rw[<-(bcell hq.lo).1 _ _ lk] at kx;have HC:=Lib.hid (hq.use (t':=t+2) (i:=i) (by omega) (by omega) (fun U h=>h.kid HN.out hx));clear hx hkc hq
      go_wp2_with (go_at_call 111;(with_reducible refine HC.out.mono ?_);rintro e w7 ⟨⟨v7,rfl⟩,hu7,-⟩;have HU7:=Lib.hid hu7;clear hu7)
      go_roundw
      case rel=>exact⟨t+1,by omega,by go_num,HU7.out⟩
      case measure=>simp[intOf];omega
     ·obtain rfl:t=n.kids.length:=by omega
      have t1:¬(n.kids.length:Int)<(n.kids.length:Int):=by omega
      have HQ:=Lib.hid hq;clear hq;go_wp2;refine⟨⟨k+1,by omega,by go_num,?_⟩,by simp[intOf];omega⟩;obtain⟨a1,a2,a3,U,V,a4,a5⟩:=HQ.out;exact⟨a1,a2,a3,U,V,a4,(UInv.next HN.out a5).grow (by have:=HKL.out;omega)⟩
   ·have q2:(n.op == 2)=false:=zaj e2
    have HU8:=Lib.hid (show UsSt rs ns (.slice ra rs.length rc) (.slice (some ⟨nb,no,none⟩) ns.length nc) w k 1 (k*61+1) _ from by obtain⟨a1,a2,a3,U,V,a4,a5⟩:=HQ1.out;exact⟨a1,a2,a3,U,V,a4,(a5.nocall HN.out e2).grow (Nat.le_succ _)⟩);clear hI;go_wp2
    go_loopw [35] (fun d wx=>∃t:Nat,t<=n.kids.length/\d=.int .i64 (t:Int)/\UsSt rs ns (.slice ra rs.length rc) (.slice (some ⟨nb,no,none⟩) ns.length nc) w k (t+1) (k*61+1+t) wx) (fun d _=>n.kids.length-(intOf d).toNat)
    case atStart=>exact⟨0,Nat.zero_le _,rfl,HU8.out⟩
    case round=>
     obtain⟨t,ht,rfl,hq⟩:=hrel;by_cases htl:t<n.kids.length
     ·have t1:(t:Int)<(n.kids.length:Int):=by omega
      obtain⟨x,hx⟩:∃x,n.kids[t]?=some x:=⟨_,List.getElem?_eq_getElem htl⟩;have hkl:=HKL.out;obtain⟨x0,x1⟩:=HKID.out x (List.mem_of_getElem? hx);obtain⟨i,rfl⟩:∃i:Nat,x=i:=⟨x.toNat,by omega⟩;rcases hkc with h0|⟨kb,ko,rfl,hkc⟩
      ·rw[h0] at htl;exact absurd htl (Nat.not_lt_zero _)
      have kx:=hkc t _ hx;have lk:=zac kx;rw[<-(bcell hq.lo).1 _ _ lk] at kx;have HC:=Lib.hid (hq.use (t':=t+2) (i:=i) (by omega) (by omega) (fun U h=>h.kid HN.out hx));clear hx hkc hq
      go_wp2_with (go_at_call 111;(with_reducible refine HC.out.mono ?_);rintro e w7 ⟨⟨v7,rfl⟩,hu7,-⟩;have HU7:=Lib.hid hu7;clear hu7)
      go_roundw
      case rel=>exact⟨t+1,by omega,by go_num,HU7.out⟩
      case measure=>simp[intOf];omega
     ·obtain rfl:t=n.kids.length:=by omega
      have t1:¬(n.kids.length:Int)<(n.kids.length:Int):=by omega
      have HQ:=Lib.hid hq;clear hq;go_wp2;refine⟨⟨k+1,by omega,by go_num,?_⟩,by simp[intOf];omega⟩;obtain⟨a1,a2,a3,U,V,a4,a5⟩:=HQ.out;exact⟨a1,a2,a3,U,V,a4,(UInv.next HN.out a5).grow (by have:=HKL.out;omega)⟩
  ·obtain rfl:k=ns.length:=by omega
   have k1:¬(ns.length:Int)<(ns.length:Int):=by omega
   have b0:wr.cell? ⟨w.heap.size+2,0,none⟩=some (.slice (some ⟨w.heap.size+1,0,none⟩) ns.length ns.length):=hq.v.cell (o:=0) rfl;have lv:=hq.v.lt;have HQ:=Lib.hid hq;clear hq;go_wp2;go_ret;obtain⟨a1,a2,a3,U,V,a4,a5⟩:=HQ.out;exact⟨U,V,rfl,a4,a5.grow (by omega),a1⟩
theorem FInv.kept {rs:List PR}{ns:List PN}{F:List Fc}{held held':Nat->Bool}{i:Nat}{n:PN}(h:FInv rs ns F held)(hn:ns[i]?=some n)(he:nodeF rs n F=atF F i)(hh:∀j,held' j=false->j=i∨held j=false):FInv rs ns F held':=by
 refine⟨h.low,h.up,fun j m hm hj=>?_⟩;rcases hh j hj with e|hj
 ·subst e
  rw[hn] at hm;obtain rfl:=Option.some.inj hm;obtain⟨x,hx⟩:∃x,F[j]?=some x:=⟨_,List.getElem?_eq_getElem (by rw[h.len];exact(List.getElem?_eq_some_iff.1 hn).1)⟩;rw[he,za6 hx];exact hx
 ·exact h.done j m hm hj
theorem URows.kp {b base n UB Q H:Nat}{U:Nat->List Int}{V:Nat->Value}{W W':World}(h:URows b n UB U V W)(hv:∀i,i<n->∀g,(V i).ownBlock=some g->g<base)(hu:UB<base)(hq:base<=Q)(hh:base<=H)(hk:Kp base Q H 3 W W'):URows b n UB U V W':=by
 obtain⟨⟨cs,h1,h2⟩,h3,h4⟩:=h;refine⟨⟨cs,hk.bl h1 (by omega) (by omega) (by decide),h2⟩,fun i hi=>?_,h4⟩;obtain⟨hl,hr⟩:=h3 i hi;refine⟨hl,?_⟩;rcases hr with hr|⟨g,cap,cur,e,hb,hg,rest⟩
 ·exact .inl hr
 ·refine .inr ⟨g,cap,cur,e,hb,?_,rest⟩
  have:=hv i hi g (by rw[e];rfl);rw[hk.block g (Array.getElem?_eq_some_iff.1 hg).1 (by omega) (by omega) (.inl this)];exact hg
theorem URows.off {b n UB c o:Nat}{t:TypeId}{cs:Array Value}{v:Value}{U:Nat->List Int}{V:Nat->Value}{W:World}(h:URows b n UB U V W)(hc:Bl W c t cs)(h1:29≠t)(h2:3≠t):URows b n UB U V (W.setCell ⟨c,o,none⟩ v):=by
 obtain⟨⟨ds,g1,g2⟩,g3,g4⟩:=h;exact⟨⟨ds,g1.off (g1.ne hc h1),g2⟩,fun i hi=>ownsRow_setCell_other (g3 i hi) (a:=⟨c,o,none⟩) (za9 (g3 i hi) ⟨_,_,hc⟩ h2) _,g4⟩
theorem FBk.kp {base b Q H:Nat}{l:List Fc}{W W':World}(h:FBk W b 120 l)(hb:b<base)(hq:base<=Q)(hh:base<=H)(hk:Kp base Q H 3 W W'):FBk W' b 120 l:=by
 obtain⟨cs,h1,h2⟩:=h;exact⟨cs,hk.bl h1 (by omega) (by omega) (by decide),h2⟩
structure OfSt (rs:List PR) (ns:List PN) (rv nv:Value) (w:World) (B:Nat) (U:Nat->List Int) (V:Nat->Value) (F:List Fc) (m:Nat->Bool) (l:List Int) (W:World):Prop where
 lo:Below w.heap.size w W
 g:Bl W w.heap.size 25 #[rv,nv]
 f:FBk W (w.heap.size+1) 120 F
 u:URows (w.heap.size+2) ns.length (w.heap.size+2+1) U V W
 q:Qs B ns.length (B+1) B m l W
 b:w.heap.size+2+1<B
 v:∀i,i<ns.length->∀g,(V i).ownBlock=some g->g<B
section
variable {rs:List PR} {ns:List PN} {rv nv:Value} {w W W':World} {B:Nat} {U:Nat->List Int} {V:Nat->Value} {F:List Fc} {m m':Nat->Bool} {l l':List Int}
theorem OfSt.below (h:OfSt rs ns rv nv w B U V F m l W)(hb:Below W.heap.size W W'):OfSt rs ns rv nv w B U V F m l W':=
 ⟨bl_on h.lo hb,h.g.below hb,h.f.below hb,h.u.below hb,h.q.below hb,h.b,h.v⟩
theorem OfSt.turn (h:OfSt rs ns rv nv w B U V F m l W)(hq:Qs B ns.length (B+1) B m' l' W')(hk:Kp B (B+1) B 3 W W'):OfSt rs ns rv nv w B U V F m' l' W':=by
 have hb:=h.b;have hkb:Below B W W':=hk.below (Nat.le_succ _) (Nat.le_refl _) h.q.sz;exact⟨h.lo.trans (hkb.mono (by omega)),hk.bl h.g (by omega) (by omega) (by decide),h.f.kp (by omega) (Nat.le_succ _) (Nat.le_refl _) hk,h.u.kp h.v hb (Nat.le_succ _) (Nat.le_refl _) hk,hq,hb,h.v⟩
theorem Qs.off {n Q H c o:Nat}{t:TypeId}{cs:Array Value}{v:Value}(h:Qs B n Q H m l W)(hc:Bl W c t cs)(h1:155≠t)(h2:3≠t)(h3:4≠t):Qs B n Q H m l (W.setCell ⟨c,o,none⟩ v):=by
 obtain⟨⟨a,cap,g1,g2⟩,⟨ds,g3,g4⟩,g5,g6,g7⟩:=h;exact⟨⟨a,cap,g1.off (g1.ne hc h1),ownsRow_setCell_other g2 (a:=⟨c,o,none⟩) (za9 g2 ⟨_,_,hc⟩ h2) _⟩,⟨ds,g3.off (g3.ne hc h3),g4⟩,g5,g6,g7⟩
theorem OfSt.put {i:Nat}{x:Fc}(h:OfSt rs ns rv nv w B U V F m l W)(hi:i<F.length) :
  OfSt rs ns rv nv w B U V (F.set i x) m l (((W.setCell ⟨w.heap.size+1,i*3,none⟩ (.bool x.nul)).setCell ⟨w.heap.size+1,i*3+1,none⟩ (.bool x.eat)).setCell ⟨w.heap.size+1,i*3+2,none⟩ (.bool x.fai)):=by
 obtain⟨cs,hc,-⟩:=id h.f;have hc1:=hc.set' (o:=i*3) (.bool x.nul);have hc2:=hc1.set' (o:=i*3+1) (.bool x.eat);exact⟨zvx h.lo (Nat.le_succ _) _ _ _,((h.g.off (by omega)).off (by omega)).off (by omega),h.f.put hi,((h.u.off hc (by decide) (by decide)).off hc1 (by decide) (by decide)).off hc2 (by decide) (by decide),
  ((h.q.off hc (by decide) (by decide) (by decide)).off hc1 (by decide) (by decide) (by decide)).off hc2 (by decide) (by decide) (by decide),h.b,h.v⟩
end
def NewB (l:List Fc)(w:World)(e:Ending)(w':World):Prop:=e=.returned (.slice (some ⟨w.heap.size+1,0,none⟩) l.length l.length)/\FBk w' (w.heap.size+1) 120 l/\Below w.heap.size w w'
def OfR (rs:List PR)(ns:List PN)(rv nv:Value)(w:World)(B:Nat)(U:Nat->List Int)(V:Nat->Value)(g:Nat)(W:World):Prop:=
 ∃F m l,OfSt rs ns rv nv w B U V F m l W/\FInv rs ns F m/\(ns.length+1)*(3*ns.length-cntL F)+l.length<=g
theorem zwf {N a b p q g:Nat}(h:N*(3*a-b)+p<=g)(hp:0<p)(hb:b<q)(hq:q<=3*a){r:Nat}(hr:r<N):N*(3*a-q)+r<g:=by
 have h1:3*a-q+1<=3*a-b:=by omega
 have h2:=Nat.mul_le_mul_left N h1;rw[Nat.mul_add,Nat.mul_one] at h2;omega
theorem zwg (rv nv:Value)(rs:List PR)(ns:List PN)(w:World)(hR:RulesIn w rv rs)(hN:NodesAt w nv ns)(hO:FlowOk rs ns) :
  Calls Tryz.prog 45 #[.agg #[rv,nv]] w (NewB (lfp rs ns) w):=by
 have hs:=hO.nl;have hmk:=fun w=>zi2 .i64 .i64 ns.length (by omega) w
 have hmf:∀(fn:Fn) (first cap:Array Value) (w:World),(Instr.makeFunc fn first cap).run Tryz.prog w=.ok (.func fn first cap) w:=fun _ _ _ _=>rfl
 have HU:=Lib.hid (fun(W:World) (hb:Below w.heap.size w W)=>zs8 rv nv rs ns W (hR.kept hb (Nat.le_refl _)) (hN.kept hb (Nat.le_refl _)) hO);have HY:=Lib.hid (fun(F:List Fc) (v:Value) (W:World) (hb:Below w.heap.size w W) (hF:FactsAt W v F) (i:Nat) (n:PN) (hn:ns[i]?=some n)=>zs4 rv nv v rs ns F i n W (hR.kept hb (Nat.le_refl _)) (hN.kept hb (Nat.le_refl _)) hF hn (hO.ok n (List.mem_of_getElem? hn)).ok);obtain⟨-,ra,rc,rfl,-⟩:=id hR;obtain⟨-,na,nc,rfl,-⟩:=id hN;unfold zwe at HU;clear hR hN;have h2:=zat w (.cells #[.slice ra rs.length rc,.slice na ns.length nc] 25) (.cells (madeCells #[.bool false,.bool false,.bool false] (ns.length*3)) 120);have hz:((w.alloc (.cells #[.slice ra rs.length rc,.slice na ns.length nc] 25)).alloc (.cells (madeCells #[.bool false,.bool false,.bool false] (ns.length*3)) 120)).heap.size=w.heap.size+2:=by simp
 have HU2:=Lib.hid (HU.out _ h2);rw[hz] at HU2;have H2:=Lib.hid h2;have HZ:=Lib.hid hz;clear h2 hz;go_enter Tryz.func45,Tryz.ntmps45
 go_wp2_with (first
  |(go_at_call 73;(with_reducible refine HU2.out.mono ?_);rintro e w3 ⟨U,V,rfl,hu,hi,hb⟩;have HB3:=Lib.hid hb;have HU3:=Lib.hid hu;have HI:=Lib.hid hi;clear hu hi hb)
  |(go_at_call 74;(with_reducible refine(z0w ns.length _ (by omega)).mono ?_);rintro e w4 ⟨m,l,rfl,hq,hm,hb⟩;have HQ4:=Lib.hid hq;have HM4:=Lib.hid hm;have HB4:=Lib.hid hb;clear hq hm hb))
 have HI3:=Lib.hid HI.out;have hof:OfSt rs ns (.slice ra rs.length rc) (.slice na ns.length nc) w w3.heap.size U V (List.replicate ns.length fc0) m l w4:=by
  have hb3:=HB3.out;have hb4:=HB4.out;have g0:Bl ((w.alloc (.cells #[.slice ra rs.length rc,.slice na ns.length nc] 25)).alloc (.cells (madeCells #[.bool false,.bool false,.bool false] (ns.length*3)) 120)) w.heap.size 25 #[.slice ra rs.length rc,.slice na ns.length nc]:=Bl.past (Bl.new w _ _);have f0:=FBk.made (w.alloc (.cells #[.slice ra rs.length rc,.slice na ns.length nc] 25)) ns.length 120;rw[show(w.alloc (.cells #[.slice ra rs.length rc,.slice na ns.length nc] 25)).heap.size=w.heap.size+1 by simp] at f0;have hb3':=hb3;rw[<-HZ.out] at hb3';exact⟨bl_on (bl_on H2.out hb3') hb4,(g0.below hb3').below hb4,(f0.below hb3').below hb4,HU3.out.below hb4,HQ4.out,HU3.out.lt,fun i hi g e=>((HU3.out.row i hi).lt g e).2⟩
 have hfi:FInv rs ns (List.replicate ns.length fc0) m:=FInv.start rs ns HM4.out;have hB:w.heap.size+2+1<w3.heap.size:=HU3.out.lt;have hl0:=HQ4.out.i.le;clear HU HU2 H2 HZ HB3 HU3 HI HQ4 HM4 HB4 hmk hmf;generalize w3.heap.size=B at *
 go_loopg [] ((ns.length+1)*(3*ns.length)+ns.length) (fun g wr=>OfR rs ns (.slice ra rs.length rc) (.slice na ns.length nc) w B U V g wr)
 case atStart=>exact⟨_,m,l,hof,hfi,Nat.add_le_add (Nat.mul_le_mul_left _ (Nat.sub_le _ _)) hl0⟩
 case round=>
  clear hof hfi hl0;obtain⟨F,m,l,hq,hi,hg⟩:=hrel;have HQ:=Lib.hid hq;have HFI:=Lib.hid hi;have HG:=Lib.hid hg;have hlen:=hi.len;have g0:wr.cell? ⟨w.heap.size,0,none⟩=some (.slice ra rs.length rc):=hq.g.cell (o:=0) rfl;have g1:wr.cell? ⟨w.heap.size,1,none⟩=some (.slice na ns.length nc):=hq.g.cell (o:=1) rfl;clear hq hi hg;by_cases hl:l.length=0
  ·have k1:¬(0:Int)<(l.length:Int):=by omega
   have HD:=Lib.hid (HFI.out.over fun i hil=>by
    cases hm:m i with
    |false=>rfl
    |true=>
     have:=(HQ.out.q.i.mem (i:Int)).2 ⟨i,rfl,hil,hm⟩;rw[List.length_eq_zero_iff.1 hl] at this;cases this)
   go_wp2_with (go_at_call 77;(with_reducible refine(zhk B (B+1) _ _ _ HQ.out.q.q).mono ?_);rintro e w5 ⟨rfl,hw⟩;obtain rfl:=hw.symm;clear hw)
   go_ret;refine⟨by rw[za7];rfl,?_,HQ.out.lo⟩;rw[<-HD.out];exact HQ.out.f
  ·have k1:(0:Int)<(l.length:Int):=by omega
   have hlp:0<l.length:=by omega
   go_upto_region 7 with(first
    |(go_at_call 77;(with_reducible refine(zhk B (B+1) _ _ _ HQ.out.q.q).mono ?_);rintro e w5 ⟨rfl,hw⟩;obtain rfl:=hw.symm;clear hw)
    |(go_at_call 76;(with_reducible refine(zwa B ns.length (B+1) B m l _ HQ.out.q hlp (by omega)).mono ?_);rintro e w6 ⟨k,l6,rfl,hk,hmk,hl6,hq6,hk6⟩;have HQ6:=Lib.hid (HQ.out.turn hq6 hk6);have HKN:=Lib.hid hk;have HL6:=Lib.hid hl6;have HMK:=Lib.hid hmk;clear hk hmk hl6 hq6 hk6))
   obtain⟨n,hn⟩:∃n,ns[k]?=some n:=⟨_,List.getElem?_eq_getElem HKN.out⟩;obtain⟨x,hx⟩:∃x,F[k]?=some x:=⟨_,List.getElem?_eq_getElem (by rw[hlen];exact HKN.out)⟩;have k2:(k:Int)<(ns.length:Int):=by have:=HKN.out;omega
   have HC:=Lib.hid (HY.out F _ _ HQ6.out.lo (HQ6.out.f.facts (c:=ns.length) (by rw[hlen];unfold maxLen;omega)) k n hn);rw[hlen] at HC;have gg0:w6.cell? ⟨w.heap.size,0,none⟩=some (.slice ra rs.length rc):=HQ6.out.g.cell (o:=0) rfl;have gg1:w6.cell? ⟨w.heap.size,1,none⟩=some (.slice na ns.length nc):=HQ6.out.g.cell (o:=1) rfl;have HN:=Lib.hid hn;have HX:=Lib.hid hx;have HV:=Lib.hid (show nodeF rs n F=nodeF rs n F from rfl);generalize hy:nodeF rs n F=y at HC HV;have HYE:=Lib.hid hy;unfold factV at HC;clear g0 g1 hn hx hy HQ;have HE:=eqlF y x;by_cases hyx:y=x
   ·rw[decide_eq_true hyx] at HE
    have HYX:=Lib.hid hyx;clear hyx
    go_upto_region 8 with(go_at_call 78;(with_reducible refine HC.out.mono ?_);rintro e w7 ⟨rfl,hb⟩;have HQ7:=Lib.hid ((HQ6.out.below hb).below (zab w7 (.cells #[.bool y.nul,.bool y.eat,.bool y.fai] 120)));have HN7:=Lib.hid (Bl.new w7 120 #[.bool y.nul,.bool y.eat,.bool y.fai]);clear hb)
    generalize w7.alloc _=W8 at *;have d8:=HN7.out;have lN:=d8.lt;clear HN7;generalize w7.heap.size=N at *;have n0:=d8.c0;have n1:=d8.c1;have n2:=d8.c2;obtain⟨f0,f1,f2⟩:=HQ7.out.f.at HX.out;have lf:=HQ7.out.f.lt;have HD8:=Lib.hid d8;clear d8 gg0 gg1;go_quiet (with_reducible refine zc4 BinOp.eql 120 _ _ _ rfl rfl _ _ rfl rfl gtF _ HE ?_);go_wp2
    go_roundg ((ns.length+1)*(3*ns.length-cntL F)+l6.length)
    case measure=>have:=HG.out;have:=HL6.out;omega
    case rel=>
     refine⟨F,delN m k,l6,HQ7.out.below (zak (Below.refl _ _)),HFI.out.kept HN.out (by rw[HYE.out,HYX.out,za6 HX.out]) fun j hj=>?_,Nat.le_refl _⟩;by_cases e:j=k
     ·exact .inl e
     ·refine .inr ?_
      unfold delN at hj;have:(j == k)=false:=by simp;omega
      rw[this] at hj;simpa using hj
   ·rw[decide_eq_false hyx] at HE
    have HYX:=Lib.hid hyx;clear hyx
    go_upto_region 8 with(go_at_call 78;(with_reducible refine HC.out.mono ?_);rintro e w7 ⟨rfl,hb⟩;have HQ7:=Lib.hid ((HQ6.out.below hb).below (zab w7 (.cells #[.bool y.nul,.bool y.eat,.bool y.fai] 120)));have HN7:=Lib.hid (Bl.new w7 120 #[.bool y.nul,.bool y.eat,.bool y.fai]);clear hb)
    generalize w7.alloc _=W8 at *;have d8:=HN7.out;have lN:=d8.lt;clear HN7;generalize w7.heap.size=N at *;have n0:=d8.c0;have n1:=d8.c1;have n2:=d8.c2;obtain⟨f0,f1,f2⟩:=HQ7.out.f.at HX.out;have lf:=HQ7.out.f.lt;have HD8:=Lib.hid d8;clear d8 gg0 gg1;go_quiet (with_reducible refine zc4 BinOp.eql 120 _ _ _ rfl rfl _ _ rfl rfl gtF _ HE ?_);have h9:=HQ7.out.below (zak (m:=nq) (Below.refl W8.heap.size W8));have d9:=HD8.out.below (zak (m:=nq) (Below.refl W8.heap.size W8));clear n0 n1 n2 f0 f1 f2 lf lN HD8 HQ7;generalize W8.drewN nq=W9 at *;have n0:=d9.c0;have n1:=d9.c1;have n2:=d9.c2;obtain⟨f0,f1,f2⟩:=h9.f.at HX.out;have fz:=h9.f.free;have lf:=h9.f.lt;have lN:=d9.lt;have hkF:k<F.length:=by rw[hlen];exact HKN.out
    have H10:=Lib.hid (h9.put (x:=y) hkF);clear h9 d9
    go_upto_region 10 with(fail)
    clear n0 n1 n2 f0 f1 f2 fz lf lN;generalize World.setCell _ _ _=W10 at *;have hrow:=H10.out.u.row k HKN.out;obtain⟨va,vc,hv⟩:=zad hrow;have cu:=H10.out.u.cell HKN.out;rw[hv] at cu;have lu:=H10.out.u.lt;have HVK:=Lib.hid hv;have hFI:∀m':Nat->Bool,(∀j,delN m k j=true->m' j=true)->(∀j:Nat,(j:Int) ∈ U k->m' j=true)->FInv rs ns (F.set k y) m':=fun m' h1 h2=>by
     have:=HFI.out.new (held':=m') HN.out fun j m_ hm_ hj=>⟨(by
      by_cases e:j=k
      ·exact .inl e
      ·refine .inr ?_
       cases hm:m j with
       |false=>rfl
       |true=>
        have:=h1 j (by
                 unfold delN;rw[hm];have:(j == k)=false:=by simp;omega
                 rw[this];rfl)
        rw[hj] at this;cases this),fun hd=>by
      have:=h2 j (HI3.out.all j k m_ (List.getElem?_eq_some_iff.1 hm_).1 hm_ hd HKN.out);rw[hj] at this;cases this⟩
     rw[HYE.out] at this;exact this
    have hcnt:cntL F<cntL (F.set k y):=by
     have:=z4y HFI.out HN.out (by rw[HYE.out,za6 HX.out];exact HYX.out);rw[HYE.out] at this;exact this
    have hcl:cntL (F.set k y)<=3*ns.length:=by have:=zos (F.set k y);rw[List.length_set,hlen] at this;exact this
    have HFN:=Lib.hid hFI;have HCN:=Lib.hid hcnt;have HCL:=Lib.hid hcl;have HUL:=Lib.hid (fun x hx=>HI3.out.lt k x hx);have hul:=HI3.out.len k;clear hrow hv hFI hcnt hcl;go_wp2
    go_loopw [49] (fun d wx=>∃(t:Nat) (m':Nat->Bool) (l':List Int),t<=(U k).length/\d=.int .i64 (t:Int)/\OfSt rs ns (.slice ra rs.length rc) (.slice na ns.length nc) w B U V (F.set k y) m' l' wx/\(∀j,delN m k j=true->m' j=true)/\∀(p:Nat) (j:Nat),p<t->(U k)[p]?=some (j:Int)->m' j=true) (fun d _=>(U k).length-(intOf d).toNat)
    case atStart=>exact⟨0,delN m k,l6,Nat.zero_le _,rfl,H10.out,fun j h=>h,fun p j h=>absurd h (Nat.not_lt_zero _)⟩
    case round=>
     obtain⟨t,m',l',ht,rfl,hq,h1,h2⟩:=hrel;by_cases htl:t<(U k).length
     ·have t1:(t:Int)<((U k).length:Int):=by omega
      obtain⟨z,hz⟩:∃z,(U k)[t]?=some z:=⟨_,List.getElem?_eq_getElem htl⟩;obtain⟨j,rfl,hj⟩:=HUL.out z (List.mem_of_getElem? hz);have hrow:=hq.u.row k HKN.out;rw[HVK.out] at hrow;obtain⟨g,rfl,-,hc,-⟩:=zan hrow (by omega);have cz:=hc t (.int .i64 (j:Int)) (by unfold intsV;rw[List.getElem?_map,hz];rfl);have HC2:=Lib.hid (zq9 B ns.length (B+1) B j m' l' _ hq.q hj (by omega));have HQ:=Lib.hid hq;have H1:=Lib.hid h1;have H2:=Lib.hid h2;have HZ:=Lib.hid hz;clear hq h1 h2 hz hrow hc
      go_wp2_with (go_at_call 75;(with_reducible refine HC2.out.mono ?_);rintro e w11 ⟨⟨v11,rfl⟩,l11,hq11,hk11⟩;have HQ11:=Lib.hid (HQ.out.turn hq11 hk11);clear hq11 hk11)
      go_roundw
      case rel=>
       refine⟨t+1,ins m' j,l11,by omega,by go_num,HQ11.out,fun i hi=>zby (H1.out i hi),fun p i hp hpi=>?_⟩;by_cases e:p=t
       ·subst e
        have hzz:=HZ.out;rw[hpi] at hzz;have:i=j:=by injection hzz with hzz;omega
        subst this;exact zcf m' i
       ·exact zby (H2.out p i (by omega) hpi)
      case measure=>simp[intOf];omega
     ·obtain rfl:t=(U k).length:=by omega
      have t1:¬((U k).length:Int)<((U k).length:Int):=by omega
      have HQ:=Lib.hid hq;have HF2:=Lib.hid (HFN.out m' h1 fun j hj=>by
       obtain⟨p,hp⟩:=List.getElem?_of_mem hj;exact h2 p j (List.getElem?_eq_some_iff.1 hp).1 hp)
      clear hq h1 h2;go_wp2;have hle:=HQ.out.q.i.le
      go_roundg ((ns.length+1)*(3*ns.length-cntL (F.set k y))+l'.length)
      case measure=>exact zwf HG.out hlp HCN.out HCL.out (Nat.lt_succ_of_le hle)
      case rel=>exact⟨F.set k y,m',l',HQ.out,HF2.out,Nat.le_refl _⟩
theorem zwh (rv nv:Value)(rs:List PR)(ns:List PN)(w:World)(hR:RulesIn w rv rs)(hN:NodesAt w nv ns)(hO:FlowOk rs ns) :
  Calls Tryz.prog 45 #[.agg #[rv,nv]] w (NewF (lfp rs ns) w):=
 (zwg rv nv rs ns w hR hN hO).mono fun e w' ⟨h1,h2,h3⟩=>⟨some ⟨w.heap.size+1,0,none⟩,(lfp rs ns).length,h1,h2.facts (by rw[za7];have:=hO.nl;unfold maxLen;omega),h3⟩
end Go.Proofs.YthhppmehhdlmnaaGreatDoor
