/- Layer 13: the reference's search of a cycle: all lists without repetition, longer and longer. -/
import Derived.Test.YthhppmehhdlmnaaGreatDoorPkFM
import Derived.Test.YthhppmehhdlmnaaGreatDoorPkLeftWalk
namespace Go.Proofs.YthhppmehhdlmnaaGreatDoor
section
variable (calls:Nat->List Nat) (r:Nat)
def lastL (l:List Nat):Nat:=l.getLastD 0
variable {calls r}
theorem zdn (l:List Nat)(x:Nat):lastL (l++[x])=x:=by unfold lastL;simp
theorem zif {l:List Nat}(h:0<l.length):∃m x,l=m++[x]:=by
 refine⟨l.dropLast,l.getLast (by intro e;rw[e] at h;cases h),(List.dropLast_concat_getLast _).symm⟩
theorem ChI.left {l:List Nat}{x:Nat}(h:ChI calls (l++[x])):ChI calls l:=fun i a b ha hb=>h i a b (by rw[List.getElem?_append_left (List.getElem?_eq_some_iff.1 ha).1];exact ha) (by rw[List.getElem?_append_left (List.getElem?_eq_some_iff.1 hb).1];exact hb)
theorem ChI.snoc {l:List Nat}{x:Nat}(h0:0<l.length):ChI calls (l++[x])↔ChI calls l/\x ∈ calls (lastL l):=by
 obtain⟨m,y,rfl⟩:=zif h0;rw[zdn];constructor
 ·refine fun h=>⟨h.left,h m.length y x ?_ ?_⟩
  ·rw[List.getElem?_append_left (by simp),List.getElem?_append_right (Nat.le_refl _),Nat.sub_self];rfl
  ·rw[List.getElem?_append_right (by simp)];simp
 ·rintro⟨h,hx⟩ i a b ha hb
  rcases Nat.lt_or_ge (i+1) (m++[y]).length with g|g
  ·rw[List.getElem?_append_left (by omega)] at ha
   rw[List.getElem?_append_left g] at hb;exact h i a b ha hb
  ·have hl:=(List.getElem?_eq_some_iff.1 hb).1
   simp at hl g;obtain rfl:i=m.length:=by omega
   rw[List.getElem?_append_left (by simp),List.getElem?_append_right (Nat.le_refl _),Nat.sub_self] at ha;rw[List.getElem?_append_right (by simp)] at hb;simp at ha hb;subst ha hb;exact hx
theorem zln {l:List Nat}:CyG calls r l↔l[0]?=some r/\ChI calls l/\r ∈ calls (lastL l):=by
 constructor
 ·exact fun h=>⟨h.1,(ChI.snoc h.pos).1 h.2⟩
 ·rintro⟨h0,h⟩
  exact⟨h0,(ChI.snoc (List.getElem?_eq_some_iff.1 h0).1).2 h⟩
theorem zfl:∀ {l:List Nat},(∀i j x:Nat,l[i]?=some x->l[j]?=some x->i=j)->l.Nodup
 | [],_=>List.nodup_nil
 |a::l,h=>List.nodup_cons.2 ⟨fun ha=>by
   obtain⟨t,ht,e⟩:=List.mem_iff_getElem.1 ha;have:=h 0 (t+1) a rfl (by show l[t]?=some a;rw[List.getElem?_eq_getElem ht,e]);omega,zfl fun i j x hi hj=>by have:=h (i+1) (j+1) x hi hj;omega⟩
end
end Go.Proofs.YthhppmehhdlmnaaGreatDoor
