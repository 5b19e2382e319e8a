/- Layer 13: a worklist without marks over a tree: each node comes once. -/
import Derived.Test.YthhppmehhdlmnaaGreatDoorPkFM
namespace Go.Proofs.YthhppmehhdlmnaaGreatDoor
structure TreeG (nd:Nat->List Nat):Prop where
 less:∀i j,j ∈ nd i->j<i
 one:∀i i' j,j ∈ nd i->j ∈ nd i'->i=i'
 nd:∀i,(nd i).Nodup
structure WkG (nd:Nat->List Nat) (root:Nat) (sn:List Nat) (k:Nat):Prop where
 nodup:sn.Nodup
 le:∀x,x ∈ sn->x<=root
 src:∀x,x ∈ sn->x=root∨∃t y,t<k/\sn[t]?=some y/\x ∈ nd y
 fst:root ∈ sn
 cls:∀t y,t<k->sn[t]?=some y->∀j,j ∈ nd y->j ∈ sn
 rch:∀x,x ∈ sn->x=root∨RchG nd root x
variable {nd:Nat->List Nat} {root k:Nat} {sn:List Nat}
theorem WkG.start:WkG nd root [root] 0:=
 ⟨List.nodup_cons.2 ⟨List.not_mem_nil,List.nodup_nil⟩,fun x h=>by obtain rfl:=List.mem_singleton.1 h;exact Nat.le_refl _,fun x h=>.inl (List.mem_singleton.1 h),List.mem_singleton.2 rfl,fun t y h=>absurd h (Nat.not_lt_zero _),fun x h=>.inl (List.mem_singleton.1 h)⟩
theorem WkG.len (h:WkG nd root sn k):sn.length<=root+1:=zce _ _ h.nodup fun x hx=>Nat.lt_succ_of_le (h.le x hx)
theorem zjs:∀ {l:List Nat},l.Nodup->∀ {i j x:Nat},l[i]?=some x->l[j]?=some x->i=j
 | [],_,i,j,x,h,_=>by simp at h
 |a::l,h,0,0,x,_,_=>rfl
 |a::l,h,0,j+1,x,hi,hj=>by
  obtain rfl:a=x:=by simpa using hi
  exact absurd (List.mem_of_getElem? (show l[j]?=some a from hj)) (List.nodup_cons.1 h).1
 |a::l,h,i+1,0,x,hi,hj=>by
  obtain rfl:a=x:=by simpa using hj
  exact absurd (List.mem_of_getElem? (show l[i]?=some a from hi)) (List.nodup_cons.1 h).1
 |a::l,h,i+1,j+1,x,hi,hj=>by rw[zjs (List.nodup_cons.1 h).2 (show l[i]?=some x from hi) hj]
theorem WkG.step (hT:TreeG nd)(h:WkG nd root sn k){y:Nat}(hy:sn[k]?=some y):WkG nd root (sn++nd y) (k+1):=by
 have hkl:=(List.getElem?_eq_some_iff.1 hy).1;have hym:=List.mem_of_getElem? hy;have hold:∀t z,sn[t]?=some z->(sn++nd y)[t]?=some z:=fun t z hz=>by rw[List.getElem?_append_left (List.getElem?_eq_some_iff.1 hz).1];exact hz
 refine⟨List.nodup_append.2 ⟨h.nodup,hT.nd y,fun a ha b hb e=>?_⟩,fun x hx=>?_,fun x hx=>?_,List.mem_append_left _ h.fst,fun t z ht hz j hj=>?_,fun x hx=>?_⟩
 ·subst e
  rcases h.src a ha with rfl|⟨t,z,ht,hz,hj⟩
  ·have:=hT.less y a hb
   have:=h.le y hym;omega
  ·obtain rfl:=hT.one _ _ _ hj hb
   have:=zjs h.nodup hz hy;omega
 ·rcases List.mem_append.1 hx with hx|hx
  ·exact h.le x hx
  ·have:=hT.less y x hx
   have:=h.le y hym;omega
 ·rcases List.mem_append.1 hx with hx|hx
  ·rcases h.src x hx with e|⟨t,z,ht,hz,hj⟩
   ·exact .inl e
   ·exact .inr ⟨t,z,by omega,hold t z hz,hj⟩
  ·exact .inr ⟨k,y,by omega,hold k y hy,hx⟩
 ·rcases Nat.lt_or_ge t k with g|g
  ·rw[List.getElem?_append_left (by omega)] at hz
   exact List.mem_append_left _ (h.cls t z g hz j hj)
  ·obtain rfl:t=k:=by omega
   rw[hold t y hy] at hz;cases hz;exact List.mem_append_right _ hj
 ·rcases List.mem_append.1 hx with hx|hx
  ·exact h.rch x hx
  ·rcases h.rch y hym with rfl|g
   ·exact .inr (.one hx)
   ·exact .inr (g.trans (.one hx))
theorem WkG.over (h:WkG nd root sn k)(hk:sn.length<=k)(x:Nat):x ∈ sn↔x=root∨RchG nd root x:=by
 refine⟨h.rch x,?_⟩;have hc:∀a,a ∈ sn->∀j,j ∈ nd a->j ∈ sn:=fun a ha j hj=>by
  obtain⟨t,ht,e⟩:=List.mem_iff_getElem.1 ha;exact h.cls t a (by omega) (by rw[List.getElem?_eq_getElem ht,e]) j hj
 rintro(rfl|g)
 ·exact h.fst
 ·exact g.closed hc h.fst
end Go.Proofs.YthhppmehhdlmnaaGreatDoor
