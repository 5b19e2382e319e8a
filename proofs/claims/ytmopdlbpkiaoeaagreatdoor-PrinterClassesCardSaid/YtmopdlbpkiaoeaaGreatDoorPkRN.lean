/- What a token reads lies within it: the same token, whatever follows (an identifier: if no letter follows). No walk. A string as its tokens with the spacing betw -/
import Derived.Test.YtmopdlbpkiaoeaaGreatDoorPkA
namespace Go.Proofs.YtmopdlbpkiaoeaaGreatDoor
inductive Seg:List Nat->Nat->List Tok->Prop
 |fin {g:List Nat} {p:Nat} (h:Spc g):Seg g p [⟨0,p+g.length,[],[]⟩]
 |tok {g b X:List Nat} {p:Nat} {t:Tok} {ts:List Tok} (h:Spc g) (hk:t.kind≠0) (ht:tokL (p+g.length) (b++X)=some (t,p+g.length+b.length)) (hr:Seg X (p+g.length+b.length) ts):Seg (g++(b++X)) p (t::ts)
theorem z1z {k n:Nat}{y:List Nat}{t:Tok}(h:tokL k y=some (t,n))(hk:t.kind≠0):skipL y=(0,true):=by
 cases y with
 |nil=>
  rw[zcp] at h;obtain⟨rfl,-⟩:=Prod.mk.inj (Option.some.inj h);exact absurd rfl hk
 |cons c r=>
  by_cases hc:c=32∨c=9∨c=10∨c=13∨c=35
  ·have hb:tokL k (c::r)=none:=by
    rcases hc with rfl|rfl|rfl|rfl|rfl<;>exact zc3 (by decide) (fun e=>absurd e.1 (by decide)) (by decide) (by decide) (by decide)
   rw[hb] at h;cases h
  ·exact zbg (by omega) (by omega)
theorem Seg.toks {x:List Nat}{p:Nat}{ts:List Tok}(h:Seg x p ts):∀l:List Nat,l.drop p=x->p<=l.length->toksL l p=.ok ts:=by
 induction h with
 |fin h=>
  rename_i g p;intro l hl hp;have hs:=h [];rw[List.append_nil,zc5] at hs;have hlen:=congrArg List.length hl;rw[List.length_drop] at hlen;refine zcb (n:=p+g.length) ?_ rfl;unfold nextL;rw[hl,hs];show(match tokL (p+(g.length+0)) (l.drop (p+(g.length+0))) with|some x=>Except.ok x|none=>.error _)=_;rw[List.drop_eq_nil_of_le (by omega),zcp];rfl
 |tok h hk ht hr ih=>
  rename_i g b X p t ts;intro l hl hp;have hs:=h (b++X);rw[z1z ht hk] at hs;have hlen:=congrArg List.length hl;rw[List.length_drop,List.length_append,List.length_append] at hlen;have hd:l.drop (p+g.length)=b++X:=by rw[<-List.drop_drop,hl,List.drop_left]
  have hn:nextL l p=.ok (t,p+g.length+b.length):=by
   unfold nextL;rw[hl,hs];show(match tokL (p+(g.length+0)) (l.drop (p+(g.length+0))) with|some x=>Except.ok x|none=>.error _)=_;rw[Nat.add_zero,hd,ht]
  have hmv:=zd5 _ _ _ _ ht;have hb:0<b.length:=by
   rcases hmv with h2|h2
   ·exact absurd h2.1 hk
   ·omega
  rw[zdc hn hk ⟨by omega,by omega⟩,ih l (by rw[<-List.drop_drop,hd,List.drop_left]) (by omega)];rfl
theorem Seg.at {x:List Nat}{p:Nat}{ts:List Tok}(h:Seg x p ts):∀t r,ts=t::r->p<=t.at_:=by
 cases h with
 |fin h=>intro t r e;rw[<-(List.cons.inj e).1];exact Nat.le_add_right _ _
 |tok h hk ht hr=>
  intro t r e;rw[<-(List.cons.inj e).1,zgb _ _ _ _ ht];exact Nat.le_add_right _ _
end Go.Proofs.YtmopdlbpkiaoeaaGreatDoor
