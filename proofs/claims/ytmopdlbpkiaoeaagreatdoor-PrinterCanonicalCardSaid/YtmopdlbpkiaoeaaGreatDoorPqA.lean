/- Characters of grammar files as plain functions on lists of bytes: what a backslash and what follows it stand for. No walk, no program. Quoted strings as plain f -/
import Derived.Orders
import Derived.Below
import Derived.RowKit
namespace Go.Proofs.YtmopdlbpkiaoeaaGreatDoor
open Bool renaming and_eq_true->qbs
open Int renaming le_refl->qe9
open List renaming all_eq_true->qci, drop_eq_getElem_cons->qbr, drop_eq_nil_of_le->qay, foldl_cons->qc5, getElem?_eq_getElem->qae, getElem?_eq_some_iff->qag, length_cons->qah, length_drop->qa2, mem_cons->qbk, mem_cons_of_mem->qa9, mem_cons_self->qap, take_of_length_le->qa4
open Nat renaming le_refl->qac, zero_add->qbc, zero_le->qaj
open Option renaming map_eq_some_iff->qa1
open Option.some renaming inj->qar
open Prod.mk renaming inj->qcs
variable {a i:Int}{ks st st':List Int}{r:List Nat}{l:List Oper}{c k m n p q:Nat}{o:Oper}{w:World}
theorem U {p:Prop}(h:p:=by omega):p:=h
theorem ja {p:Prop}(h:p:=by decide):p:=h
theorem jb {p:Prop}(h:p:=by kernel_rfl):p:=h
theorem jc {p:Prop}(h:p:=by simp):p:=h
def bts (s:ByteArray):List Nat:=s.data.toList.map UInt8.toNat
theorem zaj (s:ByteArray):(bts s).length=s.size:=by unfold bts;rw[List.length_map];exact Array.length_toList
theorem zt5 (s:ByteArray):∀x,x ∈ bts s->x<256:=by
 intro x hx;unfold bts at hx;obtain⟨u,-,rfl⟩:=List.mem_map.1 hx;exact u.toNat_lt
theorem zt6 (s:ByteArray)(k:Nat)(h:k<s.size):(bts s)[k]?=some (s[k].toNat):=by
 unfold bts;rw[List.getElem?_map,qae (by rw[Array.length_toList];exact h)];rfl
theorem zas (s:ByteArray)(k:Nat)(h:k<s.size):(bts s).drop k=s[k].toNat::(bts s).drop (k+1):=by
 rw[qbr (by rw[zaj];exact h)];congr 1;have:=zt6 s k h;rw[qae (by rw[zaj];exact h)] at this;exact qar this
theorem zqk (s:ByteArray)(h:0<s.size):bts s=s[0].toNat::(bts s).drop 1:=zas s 0 h
theorem zby (s:ByteArray)(i j:Nat):bts (s.extract i j)=((bts s).drop i).take (j-i):=by
 unfold bts;rw[ByteArray.data_extract,Array.toList_extract,List.extract_eq_take_drop,List.map_take,List.map_drop]
theorem zow {a b:ByteArray}(h:bts a=bts b):a=b:=by
 unfold bts at h;have h2:a.data.toList=b.data.toList:=by
  have:=congrArg (List.map UInt8.ofNat) h;simpa [List.map_map,Function.comp_def] using this
 cases a;cases b;congr 1;exact Array.toList_inj.1 h2
def strOf (l:List Nat):ByteArray:=⟨(l.map UInt8.ofNat).toArray⟩
theorem zf7 (l:List Nat)(h:∀x,x ∈ l->x<256):bts (strOf l)=l:=by
 unfold bts strOf;simp only[List.map_map]
 conv=>rhs;rw[<-List.map_id l]
 refine List.map_congr_left fun x hx=>?_
 have:=h x hx;simp;omega
theorem zt7 (s:ByteArray):strOf (bts s)=s:=zow (zf7 _ (zt5 s))
theorem zmq (a b:List Nat):strOf (a++b)=strOf a++strOf b:=by
 unfold strOf;apply ByteArray.ext;rw[ByteArray.data_append];simp
theorem zb0 (a:List Nat):(strOf a).size=a.length:=by unfold strOf;show((a.map UInt8.ofNat).toArray).size=a.length;simp
def oct (d:Nat):Bool:=decide (48<=d/\d<=55)
def numF:Nat->Nat->List Nat->Nat × Nat
 |c,n,[]=>(c,n)
 |c,n,d::r=>if oct d then numF (c*8+d-48) (n+1) r else (c,n)
def esc:List Nat->Nat × Nat
 | []=>(0,0)
 |d::r=>
  if d=110 then (10,1) else if d=114 then (13,1) else if d=116 then (9,1)
  else if d=39∨d=34∨d=91∨d=93∨d=92 then (d,1)
  else if d=48∨d=49∨d=50 then numF 0 0 ((d::r).take 3)
  else if d=51∨d=52∨d=53∨d=54∨d=55 then numF 0 0 ((d::r).take 2) else (0,0)
theorem zb3 (d:Nat)(r:List Nat):esc (d::r) =
  if d=110 then (10,1) else if d=114 then (13,1) else if d=116 then (9,1)
  else if d=39∨d=34∨d=91∨d=93∨d=92 then (d,1)
  else if d=48∨d=49∨d=50 then numF 0 0 ((d::r).take 3)
  else if d=51∨d=52∨d=53∨d=54∨d=55 then numF 0 0 ((d::r).take 2) else (0,0):=rfl
def rdl:List Nat->Option (Nat × Nat)
 | []=>none
 |d::r=>if d=92 then (if (esc r).2=0 then none else some ((esc r).1,1+(esc r).2)) else some (d,1)
theorem zir (r:List Nat):rdl (92::r)=if (esc r).2=0 then none else some ((esc r).1,1+(esc r).2):=rfl
theorem zdi (d:Nat)(r:List Nat)(h:d≠92):rdl (d::r)=some (d,1):=by unfold rdl;simp only[if_neg h]
def rd (l:List Nat)(p:Int):Option (Nat × Nat):=if p<0 then none else rdl (l.drop p.toNat)
theorem zt8 (l:List Nat)(p:Int)(h:p<0):rd l p=none:=by unfold rd;rw[if_pos h]
theorem zcn (l:List Nat)(p:Nat):rd l (p:Int)=rdl (l.drop p):=by unfold rd;rw[if_neg U];rfl
theorem zt9 (l:List Nat)(p:Nat)(h:l.length<=p):rd l (p:Int)=none:=by rw[zcn,qay h];rfl
def dg (l:List Nat)(m mx:Nat):Bool:=decide (m<=l.length)&&(decide (48<=l.headD 0/\l.headD 0<=mx)&&(l.take m).all oct)
theorem zy3 (a:Nat)(ha:oct a=true):numF 0 0 [a]=(a-48,1):=by
 show(if oct a then numF (0*8+a-48) (0+1) [] else (0,0))=_;rw[if_pos ha];show(0*8+a-48,0+1)=_;congr 1;omega
theorem zft (a:Nat)(r:List Nat)(ha:oct a=false)(c n:Nat):numF c n (a::r)=(c,n):=by
 show(if oct a then _ else (c,n))=_;rw[if_neg (by rw[ha];decide)]
theorem zco (a:Nat)(r:List Nat)(ha:oct a=true)(c n:Nat):numF c n (a::r)=numF (c*8+a-48) (n+1) r:=by
 show(if oct a then _ else (c,n))=_;rw[if_pos ha]
theorem zeh:∀(l:List Nat) (c n:Nat),n<=(numF c n l).2/\(numF c n l).2<=n+l.length
 | [],c,n=>⟨qac _,qac _⟩
 |d::r,c,n=>by
  unfold numF;split
  ·have:=zeh r (c*8+d-48) (n+1)
   rw[qah];omega
  ·rw[qah];exact⟨qac _,U⟩
theorem zua (l:List Nat):(esc l).2<=l.length:=by
 cases l with
 |nil=>exact qac _
 |cons d r=>
  rw[zb3];have h3:=(zeh ((d::r).take 3) 0 0).2;have h2:=(zeh ((d::r).take 2) 0 0).2;generalize numF 0 0 ((d::r).take 3)=x at h3;generalize numF 0 0 ((d::r).take 2)=y at h2;rw[List.length_take,qah] at h3 h2;rw[qah]
  repeat' split
  all_goals omega
theorem zei (l:List Nat)(c n:Nat)(h:rdl l=some (c,n)):1<=n/\n<=l.length:=by
 cases l with
 |nil=>cases h
 |cons d r=>
  rw[qah];by_cases hd:d=92
  ·subst hd
   rw[zir] at h;have:=zua r;by_cases h0:(esc r).2=0
   ·rw[if_pos h0] at h;cases h
   ·rw[if_neg h0] at h
    obtain⟨-,rfl⟩:=qcs (qar h);omega
  ·rw[zdi d r hd] at h
   obtain⟨-,rfl⟩:=qcs (qar h);omega
theorem zej (d:Nat):oct d=true↔(48<=d/\d<=55):=by unfold oct;simp
theorem zub (d:Nat):oct d=false↔¬(48<=d/\d<=55):=by unfold oct;simp
theorem z2a (c:Nat)(r:List Nat)(h1:c≠110)(h2:c≠114)(h3:c≠116)(h4:¬(c=39∨c=34∨c=91∨c=93∨c=92)) :
  esc (c::r)=if dg (c::r) 3 50=true then (64*(c-48)+8*(r.getD 0 0-48)+(r.getD 1 0-48),3)
   else if dg (c::r) 2 55=true then (8*(c-48)+(r.getD 0 0-48),2)
   else if dg (c::r) 1 55=true then (c-48,1) else (0,0):=by
 rw[zb3,if_neg h1,if_neg h2,if_neg h3,if_neg h4];by_cases hc:oct c=true
 ·have hc':=(zej c).1 hc
  match r with
  | []=>
   have e3:dg [c] 3 50=false:=by unfold dg;simp
   have e2:dg [c] 2 55=false:=by unfold dg;simp
   have e1:dg [c] 1 55=true:=by unfold dg;simp[hc,hc']
   rw[e3,e2,e1];have t3:[c].take 3=[c]:=rfl;have t2:[c].take 2=[c]:=rfl;rw[t3,t2,zy3 c hc];split
   ·rfl
   ·rw[if_pos U];rfl
  | [a]=>
   have e3:dg [c,a] 3 50=false:=by unfold dg;simp
   have e1:dg [c,a] 1 55=true:=by unfold dg;simp[hc,hc']
   have t3:[c,a].take 3=[c,a]:=rfl;have t2:[c,a].take 2=[c,a]:=rfl;rw[e3,e1,t3,t2,zco c [a] hc];cases ha:oct a
   ·have e2:dg [c,a] 2 55=false:=by unfold dg;simp[ha]
    rw[zft a [] ha,e2];split
    ·simp
    ·rw[if_pos U];simp
   ·have e2:dg [c,a] 2 55=true:=by unfold dg;simp[ha,hc,hc']
    have ha':=(zej a).1 ha;rw[zco a [] ha,e2];have:numF ((0*8+c-48)*8+a-48) (0+1+1) []=(8*(c-48)+(a-48),2):=by unfold numF;congr 1;omega
    rw[this];split
    ·simp
    ·rw[if_pos U];simp
  |a::b::r'=>
   have e1:dg (c::a::b::r') 1 55=true:=by unfold dg;simp[hc,hc']
   have t3:(c::a::b::r').take 3=[c,a,b]:=rfl;have t2:(c::a::b::r').take 2=[c,a]:=rfl;rw[e1,t3,t2,zco c [a,b] hc,zco c [a] hc];cases ha:oct a
   ·have e3:dg (c::a::b::r') 3 50=false:=by unfold dg;simp[ha]
    have e2:dg (c::a::b::r') 2 55=false:=by unfold dg;simp[ha]
    rw[zft a _ ha,zft a _ ha,e3,e2];split
    ·simp
    ·rw[if_pos U];simp
   ·have e2:dg (c::a::b::r') 2 55=true:=by unfold dg;simp[ha,hc,hc']
    have ha':=(zej a).1 ha;rw[zco a _ ha,zco a _ ha,e2];have t:numF ((0*8+c-48)*8+a-48) (0+1+1) []=(8*(c-48)+(a-48),2):=by unfold numF;congr 1;omega
    rw[t];cases hb:oct b
    ·have e3:dg (c::a::b::r') 3 50=false:=by unfold dg;simp[hb]
     rw[zft b _ hb,e3];have:((0*8+c-48)*8+a-48,0+1+1)=(8*(c-48)+(a-48),2):=by congr 1;omega
     rw[this];split
     ·simp
     ·rw[if_pos U];simp
    ·have hb':=(zej b).1 hb
     rw[zco b _ hb];have t:numF (((0*8+c-48)*8+a-48)*8+b-48) (0+1+1+1) []=(64*(c-48)+8*(a-48)+(b-48),3):=by unfold numF;congr 1;omega
     rw[t];by_cases h50:c<=50
     ·have e3:dg (c::a::b::r') 3 50=true:=by unfold dg;simp[hb,ha,hc];omega
      rw[e3,if_pos U];simp
     ·have e3:dg (c::a::b::r') 3 50=false:=by unfold dg;simp;omega
      rw[e3,if_neg U,if_pos U];simp
 ·have hc':oct c=false:=by simpa using hc
  have hn:=(zub c).1 hc';have e3:dg (c::r) 3 50=false:=by unfold dg;simp;omega
  have e2:dg (c::r) 2 55=false:=by unfold dg;simp;omega
  have e1:dg (c::r) 1 55=false:=by unfold dg;simp;omega
  rw[e3,e2,e1,if_neg U,if_neg U];simp
theorem z58 (l:List Nat)(hl:∀x,x ∈ l->x<256):(esc l).1<256:=by
 cases l with
 |nil=>decide
 |cons c r=>
  have hc:=hl c (qap ..);by_cases h1:c=110
  ·subst h1;rw[zb3];simp
  by_cases h2:c=114
  ·subst h2;rw[zb3];simp
  by_cases h3:c=116
  ·subst h3;rw[zb3];simp
  by_cases h4:c=39∨c=34∨c=91∨c=93∨c=92
  ·rw[zb3,if_neg h1,if_neg h2,if_neg h3,if_pos h4];exact hc
  rw[z2a c r h1 h2 h3 h4];split
  ·rename_i h
   unfold dg at h;simp only[qbs,decide_eq_true_eq,List.headD_cons] at h;obtain⟨h5,h6,h7⟩:=h;replace h6:48<=c/\c<=50:=of_decide_eq_true h6;rw[qah] at h5
   match r,h5,h7 with
   |a::b::r',_,h7=>
    have e:(c::a::b::r').take 3=[c,a,b]:=rfl;rw[e] at h7;simp only[List.all_cons,List.all_nil,qbs,zej] at h7;simp;omega
  ·split
   ·rename_i h
    unfold dg at h;simp only[qbs,decide_eq_true_eq,List.headD_cons] at h;obtain⟨h5,h6,h7⟩:=h;rw[qah] at h5
    match r,h5,h7 with
    |a::r',_,h7=>
     have e:(c::a::r').take 2=[c,a]:=rfl;rw[e] at h7;simp only[List.all_cons,List.all_nil,qbs,zej] at h7;simp;omega
   ·split
    ·simp;omega
    ·simp
theorem z2b (l:List Nat)(hl:∀x,x ∈ l->x<256)(c n:Nat)(h:rdl l=some (c,n)):c<256:=by
 cases l with
 |nil=>cases h
 |cons d r=>
  by_cases hd:d=92
  ·subst hd
   rw[zir] at h;have:=z58 r (fun x hx=>hl x (qa9 _ hx));by_cases h0:(esc r).2=0
   ·rw[if_pos h0] at h;cases h
   ·rw[if_neg h0] at h
    obtain⟨rfl,-⟩:=qcs (qar h);exact this
  ·rw[zdi d r hd] at h
   obtain⟨rfl,-⟩:=qcs (qar h);exact hl _ (qap ..)
theorem zdz {s:ByteArray}{p:Int}(h:rd (bts s) p=some (c,n)):0<=p/\p+n<=s.size/\1<=n/\c<256:=by
 by_cases hn:p<0
 ·rw[zt8 _ _ hn] at h;cases h
 ·obtain⟨k,rfl⟩:∃k:Nat,p=k:=⟨p.toNat,U⟩
  rw[zcn] at h;have h1:=zei _ _ _ h;have h2:=z2b _ (fun x hx=>zt5 s x (List.mem_of_mem_drop hx)) _ _ h;rw[qa2,zaj] at h1;omega
theorem zox {d:Nat}(h:rdl (d::r)=some (c,n)):((d::r).drop n).length<(d::r).length:=by
 have:=zei _ _ _ h;rw[qa2];omega
def letB (c:Nat)(first:Bool):Bool:=if 48<=c/\c<=57 then !first else decide (c=95∨(97<=c/\c<=122)∨(65<=c/\c<=90))
def allF:Bool->List Nat->Bool
 |_,[]=>true
 |f,c::r=>if letB c f then allF false r else false
theorem zfe {f:Bool}{c:Nat}(h:letB c f=true):allF f (c::r)=allF false r:=by
 show(if letB c f then allF false r else false)=_;rw[if_pos h]
theorem zoy {f:Bool}{c:Nat}(h:letB c f=false):allF f (c::r)=false:=by
 show(if letB c f then allF false r else false)=_;rw[h];rfl
def nameB (l:List Nat):Bool:=!l.isEmpty&&allF true l
def comL:List Nat->Option Nat
 | []=>none
 |c::r=>if c=10∨c=13 then some 0 else (comL r).map (· + 1)
theorem zek {c:Nat}(h:c=10∨c=13):comL (c::r)=some 0:=by
 show(if c=10∨c=13 then some 0 else (comL r).map (· + 1))=_;rw[if_pos h]
theorem zb7 {c:Nat}(h:¬(c=10∨c=13)):comL (c::r)=(comL r).map (· + 1):=by
 show(if c=10∨c=13 then some 0 else (comL r).map (· + 1))=_;rw[if_neg h]
theorem zis:∀(l:List Nat) (m:Nat),comL l=some m->m<l.length
 | [],m,h=>by cases h
 |c::r,m,h=>by
  rw[qah];by_cases hc:c=10∨c=13
  ·rw[zek hc] at h;cases h;omega
  ·rw[zb7 hc] at h
   obtain⟨k,hk,rfl⟩:=qa1.1 h;have:=zis r k hk;omega
def skipL (l:List Nat):Nat × Bool:=
 match l with
 | []=>(0,true)
 |c::r=>
  if c=32∨c=9∨c=10∨c=13 then ((skipL r).1+1,(skipL r).2)
  else if c≠35 then (0,true)
  else match _h:comL r with
   |none=>(0,false)
   |some m=>((skipL (r.drop m)).1+(m+1),(skipL (r.drop m)).2)
termination_by l.length
decreasing_by
 ·exact Nat.lt_succ_self _
 ·rw[qah,qa2];omega
theorem zc5:skipL []=(0,true):=by rw[skipL]
theorem zbf {c:Nat}(h:c=32∨c=9∨c=10∨c=13):skipL (c::r)=((skipL r).1+1,(skipL r).2):=by
 conv=>lhs;rw[skipL]
 rw[if_pos h]
theorem zbg {c:Nat}(h:¬(c=32∨c=9∨c=10∨c=13))(h2:c≠35):skipL (c::r)=(0,true):=by
 rw[skipL,if_neg h,if_pos h2]
theorem zew (h:comL r=none):skipL (35::r)=(0,false):=by
 rw[skipL,if_neg ja,if_neg ja];split
 ·rfl
 ·rename_i h';rw[h] at h';cases h'
theorem zd3 (h:comL r=some m):skipL (35::r)=((skipL (r.drop m)).1+(m+1),(skipL (r.drop m)).2):=by
 conv=>lhs;rw[skipL,if_neg ja,if_neg ja]
 split
 ·rename_i h';rw[h] at h';cases h'
 ·rename_i m' h'
  rw[h] at h';cases h';rfl
theorem zel:∀(n:Nat) (l:List Nat),l.length<=n->(skipL l).1<=l.length
 |_,[],_=>by rw[zc5];exact qac _
 |0,c::r,h=>absurd h (by rw[qah];omega)
 |n+1,c::r,h=>by
  rw[qah] at h ⊢;by_cases h1:c=32∨c=9∨c=10∨c=13
  ·rw[zbf h1]
   have:=zel n r U;show(skipL r).1+1<=_;omega
  ·by_cases h2:c=35
   ·subst h2
    cases hc:comL r with
    |none=>rw[zew hc];exact qaj _
    |some m=>
     rw[zd3 hc];have h3:=zis _ _ hc;have:=zel n (r.drop m) (by rw[qa2];omega);rw[qa2] at this;show(skipL (r.drop m)).1+(m+1)<=_;omega
   ·rw[zbg h1 h2];exact qaj _
def idL:Bool->List Nat->Nat
 |_,[]=>0
 |first,c::r=>if letB c first then idL false r+1 else 0
theorem zbu {first:Bool}{c:Nat}(h:letB c first=true):idL first (c::r)=idL false r+1:=by
 show(if letB c first then idL false r+1 else 0)=_;rw[if_pos h]
theorem zex {first:Bool}{c:Nat}(h:letB c first=false):idL first (c::r)=0:=by
 show(if letB c first then idL false r+1 else 0)=_;rw[h];rfl
theorem zuc:∀(l:List Nat) (first:Bool),idL first l<=l.length
 | [],_=>qac _
 |c::r,first=>by
  cases h:letB c first
  ·rw[zex h];exact qaj _
  ·rw[zbu h,qah]
   have:=zuc r false;omega
def clsL (l:List Nat):Option (List (Nat × Nat) × Nat):=
 match l with
 | []=>none
 |c::r=>
  if c=93 then some ([],1) else
  match _h:rdl (c::r) with
  |none=>none
  |some (lo,n)=>
   match (c::r).drop n with
   |45::t=>
    match rdl t with
    |none=>(clsL ((c::r).drop n)).map fun x=>((lo,lo)::x.1,n+x.2)
    |some (hi,m)=>(clsL ((c::r).drop (n+1+m))).map fun x=>((lo,hi)::x.1,n+1+m+x.2)
   |_=>(clsL ((c::r).drop n)).map fun x=>((lo,lo)::x.1,n+x.2)
termination_by l.length
decreasing_by
 all_goals
  have:=zei _ _ _ _h;rw[qa2];omega
def litE (q:Nat)(l:List Nat):Option (List Nat × Nat):=
 match l with
 | []=>none
 |d::r=>
  if d=q then some ([],1) else
  match _h:rdl (d::r) with
  |none=>none
  |some (c,n)=>(litE q ((d::r).drop n)).map fun x=>(c::x.1,n+x.2)
termination_by l.length
decreasing_by exact zox _h
def inRs (rs:List (Nat × Nat))(i:Nat):Bool:=rs.any fun r=>decide (r.1<=i/\i<=r.2)
theorem zh5:clsL []=none:=by rw[clsL]
theorem zh6:clsL (93::r)=some ([],1):=by rw[clsL,if_pos rfl]
theorem zf8 {c:Nat}(h:rdl (c::r)=none)(hc:c≠93):clsL (c::r)=none:=by
 rw[clsL,if_neg hc];split
 ·rfl
 ·rename_i h';rw[h] at h';cases h'
theorem zd4 {c lo hi:Nat}{t:List Nat}(h:rdl (c::r)=some (lo,n))(hc:c≠93)(hd:(c::r).drop n=45::t)(ht:rdl t=some (hi,m)) :
  clsL (c::r)=(clsL ((c::r).drop (n+1+m))).map fun x=>((lo,hi)::x.1,n+1+m+x.2):=by
 conv=>lhs;rw[clsL]
 rw[if_neg hc];split
 ·rename_i h';rw[h] at h';cases h'
 ·rename_i lo' n' h'
  rw[h] at h';obtain⟨rfl,rfl⟩:=qcs (qar h');split
  ·rename_i t' h2
   rw[hd] at h2;obtain rfl:=(List.cons.inj h2).2;split
   ·rename_i h3;rw[ht] at h3;cases h3
   ·rename_i hi' m' h3
    rw[ht] at h3;obtain⟨rfl,rfl⟩:=qcs (qar h3);rfl
  ·rename_i h2
   exact absurd hd (h2 t)
theorem zdw {c lo:Nat}(h:rdl (c::r)=some (lo,n))(hc:c≠93)(hd:∀t,(c::r).drop n=45::t->rdl t=none) :
  clsL (c::r)=(clsL ((c::r).drop n)).map fun x=>((lo,lo)::x.1,n+x.2):=by
 conv=>lhs;rw[clsL]
 rw[if_neg hc];split
 ·rename_i h';rw[h] at h';cases h'
 ·rename_i lo' n' h'
  rw[h] at h';obtain⟨rfl,rfl⟩:=qcs (qar h');split
  ·rename_i t' h2
   have h4:=hd t' h2;split
   ·rfl
   ·rename_i hi' m' h3
    rw[h4] at h3;cases h3
  ·rfl
theorem zh7 (q:Nat):litE q []=none:=by rw[litE]
theorem zff {q:Nat}:litE q (q::r)=some ([],1):=by rw[litE,if_pos rfl]
theorem zf9 {d:Nat}(h:rdl (d::r)=none)(hd:d≠q):litE q (d::r)=none:=by
 rw[litE,if_neg hd];split
 ·rfl
 ·rename_i h';rw[h] at h';cases h'
theorem zdj {d c:Nat}(h:rdl (d::r)=some (c,n))(hd:d≠q):litE q (d::r)=(litE q ((d::r).drop n)).map fun x=>(c::x.1,n+x.2):=by
 conv=>lhs;rw[litE]
 rw[if_neg hd];split
 ·rename_i h';rw[h] at h';cases h'
 ·rename_i c' n' h'
  rw[h] at h';obtain⟨rfl,rfl⟩:=qcs (qar h');rfl
theorem zql (o:Option (List Nat × Nat))(acc:List Nat)(a c n:Nat) :
  (o.map fun x=>(c::x.1,n+x.2)).map (fun x=>(acc++x.1,a+x.2))=o.map fun x=>((acc++[c])++x.1,(a+n)+x.2):=by
 cases o with
 |none=>rfl
 |some x=>simp;omega
theorem zga (o:Option (List (Nat × Nat) × Nat))(acc:List (Nat × Nat))(a n:Nat)(p:Nat × Nat) :
  (o.map fun x=>(p::x.1,n+x.2)).map (fun x=>(acc++x.1,a+x.2))=o.map fun x=>((acc++[p])++x.1,(a+n)+x.2):=by
 cases o with
 |none=>rfl
 |some x=>simp;omega
theorem zmr (rs:List (Nat × Nat))(p:Nat × Nat)(i:Nat):inRs (rs++[p]) i=(inRs rs i || decide (p.1<=i/\i<=p.2)):=by
 unfold inRs;rw[List.any_append];simp
structure Tok where
 kind:Nat
 at_:Nat
 text:List Nat
 rs:List (Nat × Nat)
def idxL (n:Nat):List Nat->Nat->Option Nat
 | [],_=>none
 |x::r,c=>if x=c then some n else idxL (n+1) r c
theorem zh8 {x:Nat}(h:x=c):idxL n (x::r) c=some n:=by
 show(if x=c then some n else idxL (n+1) r c)=_;rw[if_pos h]
theorem zle {x:Nat}(h:¬x=c):idxL n (x::r) c=idxL (n+1) r c:=by
 show(if x=c then some n else idxL (n+1) r c)=_;rw[if_neg h]
def sigs:List Nat:=[47,38,33,63,42,43,40,41,46]
def signK (c:Nat):Option Nat:=idxL 3 sigs c
def tokL (k:Nat):List Nat->Option (Tok × Nat)
 | []=>some (⟨0,k,[],[]⟩,k)
 |c::r=>
  if letB c true then some (⟨1,k,(c::r).take (idL true (c::r)),[]⟩,k+idL true (c::r))
  else if c=60/\r.head?=some 45 then some (⟨2,k,[],[]⟩,k+2)
  else match signK c with
   |some i=>some (⟨i,k,[],[]⟩,k+1)
   |none=>
    if c=91 then (clsL r).map fun x=>(⟨13,k,[],x.1⟩,k+1+x.2)
    else if c=39∨c=34 then (litE c r).map fun x=>(⟨12,k,x.1,[]⟩,k+1+x.2)
    else none
theorem zcp (k:Nat):tokL k []=some (⟨0,k,[],[]⟩,k):=rfl
theorem zdk (k c:Nat)(r:List Nat):tokL k (c::r) =
  if letB c true then some (⟨1,k,(c::r).take (idL true (c::r)),[]⟩,k+idL true (c::r))
  else if c=60/\r.head?=some 45 then some (⟨2,k,[],[]⟩,k+2)
  else match signK c with
   |some i=>some (⟨i,k,[],[]⟩,k+1)
   |none=>
    if c=91 then (clsL r).map fun x=>(⟨13,k,[],x.1⟩,k+1+x.2)
    else if c=39∨c=34 then (litE c r).map fun x=>(⟨12,k,x.1,[]⟩,k+1+x.2)
    else none:=rfl
theorem zci {c:Nat}(h:letB c true=true):tokL k (c::r)=some (⟨1,k,(c::r).take (idL true (c::r)),[]⟩,k+idL true (c::r)):=by
 rw[zdk,if_pos h]
theorem zbq {c:Nat}(h1:letB c true=false)(h2:c=60/\r.head?=some 45):tokL k (c::r)=some (⟨2,k,[],[]⟩,k+2):=by
 rw[zdk,h1,if_neg ja,if_pos h2]
theorem zca {c i:Nat}(h1:letB c true=false)(h2:¬(c=60/\r.head?=some 45))(h3:signK c=some i):tokL k (c::r)=some (⟨i,k,[],[]⟩,k+1):=by
 rw[zdk,h1,if_neg ja,if_neg h2,h3]
theorem zc9:tokL k (91::r)=(clsL r).map fun x=>(⟨13,k,[],x.1⟩,k+1+x.2):=rfl
theorem zda {c:Nat}(h:c=39∨c=34):tokL k (c::r)=(litE c r).map fun x=>(⟨12,k,x.1,[]⟩,k+1+x.2):=by
 rcases h with rfl|rfl<;>rfl
theorem zc3 {c:Nat}(h1:letB c true=false)(h2:¬(c=60/\r.head?=some 45))(h3:signK c=none)(h4:c≠91)(h5:¬(c=39∨c=34)):tokL k (c::r)=none:=by
 rw[zdk,h1,if_neg ja,if_neg h2,h3];show(if c=91 then _ else if c=39∨c=34 then _ else none)=none;rw[if_neg h4,if_neg h5]
def nextL (l:List Nat)(p:Nat):Except Nat (Tok × Nat):=
 if (skipL (l.drop p)).2 then
  match tokL (p+(skipL (l.drop p)).1) (l.drop (p+(skipL (l.drop p)).1)) with
  |some x=>.ok x
  |none=>.error (p+(skipL (l.drop p)).1)
 else .error (p+(skipL (l.drop p)).1)
theorem zh9 (q:Nat):∀(n:Nat) (l:List Nat),l.length<=n->∀b m,litE q l=some (b,m)->1<=m/\m<=l.length
 |_,[],_,b,m,h=>by rw[zh7] at h;cases h
 |0,d::r,hn,_,_,_=>absurd hn (by rw[qah];omega)
 |n+1,d::r,hn,b,m,h=>by
  rw[qah] at hn ⊢;by_cases hd:d=q
  ·subst hd
   rw[zff] at h;cases h;omega
  ·cases hr:rdl (d::r) with
   |none=>rw[zf9 hr hd] at h;cases h
   |some x=>
    obtain⟨c,k⟩:=x;have hk:=zei _ _ _ hr;rw[qah] at hk;rw[zdj hr hd] at h;obtain⟨⟨b',m'⟩,h',e⟩:=qa1.1 h;have:=zh9 q n _ (by rw[qa2,qah];omega) b' m' h';rw[qa2,qah] at this;obtain⟨-,rfl⟩:=qcs e;show 1<=k+m'/\k+m'<=_;omega
theorem zfg:∀(n:Nat) (l:List Nat),l.length<=n->∀b m,clsL l=some (b,m)->1<=m/\m<=l.length
 |_,[],_,b,m,h=>by rw[zh5] at h;cases h
 |0,d::r,hn,_,_,_=>absurd hn (by rw[qah];omega)
 |n+1,d::r,hn,b,m,h=>by
  rw[qah] at hn ⊢;by_cases hd:d=93
  ·subst hd
   rw[zh6] at h;cases h;omega
  ·cases hr:rdl (d::r) with
   |none=>rw[zf8 hr hd] at h;cases h
   |some x=>
    obtain⟨c,k⟩:=x;have hk:=zei _ _ _ hr;rw[qah] at hk;by_cases hg:∃t hi j,(d::r).drop k=45::t/\rdl t=some (hi,j)
    ·obtain⟨t,hi,j,h1,h2⟩:=hg
     rw[zd4 hr hd h1 h2] at h;obtain⟨⟨b',m'⟩,h',e⟩:=qa1.1 h;have h3:=zei _ _ _ h2;have h4:=congrArg List.length h1;rw[qa2,qah,qah] at h4;have:=zfg n _ (by rw[qa2,qah];omega) b' m' h';rw[qa2,qah] at this;obtain⟨-,rfl⟩:=qcs e;show 1<=k+1+j+m'/\k+1+j+m'<=_;omega
    ·rw[zdw hr hd (fun t ht=>by
      cases h2:rdl t with
      |none=>rfl
      |some y=>exact absurd ⟨t,y.1,y.2,ht,h2⟩ hg)] at h
     obtain⟨⟨b',m'⟩,h',e⟩:=qa1.1 h;have:=zfg n _ (by rw[qa2,qah];omega) b' m' h';rw[qa2,qah] at this;obtain⟨-,rfl⟩:=qcs e;show 1<=k+m'/\k+m'<=_;omega
theorem zlf:∀(l:List Nat) (n c i:Nat),idxL n l c=some i->n<=i
 | [],n,c,i,h=>by cases h
 |x::r,n,c,i,h=>by
  by_cases hx:x=c
  ·rw[zh8 hx] at h;cases h;omega
  ·rw[zle hx] at h
   have:=zlf r (n+1) c i h;omega
theorem zd5 (k:Nat)(l:List Nat)(t:Tok)(n:Nat)(h:tokL k l=some (t,n)):(t.kind=0/\l=[])∨(t.kind≠0/\k<n/\n<=k+l.length):=by
 cases l with
 |nil=>
  rw[zcp] at h;cases h;exact Or.inl ⟨rfl,rfl⟩
 |cons c r=>
  right;rw[qah];cases hl:letB c true
  ·by_cases ha:c=60/\r.head?=some 45
   ·rw[zbq hl ha] at h
    cases h;have:r≠[]:=fun e=>by rw[e] at ha;cases ha.2
    have:=List.length_pos_iff.2 this;exact⟨by show 2≠0;decide,U,U⟩
   ·cases hs:signK c with
    |some i=>
     rw[zca hl ha hs] at h;cases h;have:=zlf _ _ _ _ hs;exact⟨by show i≠0;omega,U,U⟩
    |none=>
     by_cases h91:c=91
     ·subst h91
      rw[zc9] at h;obtain⟨⟨b,m⟩,h',e⟩:=qa1.1 h;have:=zfg _ r (qac _) b m h';cases e;exact⟨by show 13≠0;decide,U,U⟩
     ·by_cases hq:c=39∨c=34
      ·rw[zda hq] at h
       obtain⟨⟨b,m⟩,h',e⟩:=qa1.1 h;have:=zh9 c _ r (qac _) b m h';cases e;exact⟨by show 12≠0;decide,U,U⟩
      ·rw[zc3 hl ha hs h91 hq] at h;cases h
  ·rw[zci hl] at h
   have h1:=zuc (c::r) true;rw[qah] at h1;have h2:1<=idL true (c::r):=by rw[zbu hl];omega
   cases h;exact⟨by show 1≠0;decide,U,U⟩
theorem za6 (l:List Nat)(p:Nat)(hp:p<=l.length)(t:Tok)(n:Nat)(h:nextL l p=.ok (t,n)):(t.kind=0/\n=l.length)∨(t.kind≠0/\p<n/\n<=l.length):=by
 unfold nextL at h;have hle:=zel _ (l.drop p) (qac _);rw[qa2] at hle;split at h
 ·generalize (skipL (l.drop p)).1=m at h hle
  cases ht:tokL (p+m) (l.drop (p+m)) with
  |none=>rw[ht] at h;cases h
  |some x=>
   rw[ht] at h;cases h;rcases zd5 _ _ _ _ ht with⟨h1,h2⟩|⟨h1,h2,h3⟩
   ·left
    refine⟨h1,?_⟩;rw[h2,zcp] at ht;have h4:=List.drop_eq_nil_iff.1 h2;cases ht;omega
   ·right
    rw[qa2] at h3;exact⟨h1,U,U⟩
 ·cases h
def toksL (l:List Nat)(p:Nat):Except Nat (List Tok):=
 match nextL l p with
 |.error k=>.error k
 |.ok (t,n)=>if t.kind=0 then .ok [t] else if _h:p<n/\n<=l.length then (toksL l n).map (t :: ·) else .ok [t]
termination_by l.length-p
decreasing_by omega
theorem zdl {l:List Nat}(h:nextL l p=.error k):toksL l p=.error k:=by
 rw[toksL,h]
theorem zcb {l:List Nat}{t:Tok}(h:nextL l p=.ok (t,n))(ht:t.kind=0):toksL l p=.ok [t]:=by
 rw[toksL,h];show(if t.kind=0 then _ else _)=_;rw[if_pos ht]
theorem zdc {l:List Nat}{t:Tok}(h:nextL l p=.ok (t,n))(ht:t.kind≠0)(hn:p<n/\n<=l.length):toksL l p=(toksL l n).map (t :: ·):=by
 conv=>lhs;rw[toksL,h]
 show(if t.kind=0 then _ else if _h:p<n/\n<=l.length then _ else _)=_;rw[if_neg ht,dif_pos hn]
def formL (c:Nat)(cl:Bool):List Nat:=
 if c=10 then [92,110] else if c=13 then [92,114] else if c=9 then [92,116]
 else if c=92∨(cl=true/\(c=91∨c=93))∨(cl=false/\c=39) then [92,c]
 else if c<32∨(127<=c/\c<=191)∨(cl=true/\c=45) then [92,48+c/64,48+c/8%8,48+c%8]
 else [c]
theorem yabm (c:Nat)(cl:Bool)(h:c<256):∀x,x ∈ formL c cl->x<256:=by
 have hh:((List.range 256).all fun c=>(formL c true).all (fun x=>decide (x<256))&&(formL c false).all (fun x=>decide (x<256)))=true:=by decide +kernel
 have:=qci.1 hh c (List.mem_range.2 h);rw[qbs] at this;intro x hx;cases cl
 ·exact of_decide_eq_true (qci.1 this.2 x hx)
 ·exact of_decide_eq_true (qci.1 this.1 x hx)
theorem yaio (c:Nat)(cl:Bool)(h:c<256):bts (strOf (formL c cl))=formL c cl:=zf7 _ (yabm c cl h)
theorem yafw (a b d:Nat)(ha:a<=2)(hb:b<=7)(hd:d<=7):numF 0 0 [48+a,48+b,48+d]=(64*a+8*b+d,3):=by
 rw[zco _ _ ((zej _).2 U),zco _ _ ((zej _).2 U),zco _ _ ((zej _).2 U)];show(((0*8+(48+a)-48)*8+(48+b)-48)*8+(48+d)-48,0+1+1+1)=_;congr 1;omega
theorem yabn (c:Nat)(cl:Bool)(hc:c<256)(r:List Nat):rdl (formL c cl++r)=some (c,(formL c cl).length):=by
 by_cases h1:c=10
 ·subst h1;rfl
 by_cases h2:c=13
 ·subst h2;rfl
 by_cases h3:c=9
 ·subst h3;rfl
 by_cases h4:c=92∨(cl=true/\(c=91∨c=93))∨(cl=false/\c=39)
 ·have e:formL c cl=[92,c]:=by unfold formL;rw[if_neg h1,if_neg h2,if_neg h3,if_pos h4]
  have hx:c=39∨c=34∨c=91∨c=93∨c=92:=U
  rw[e];show rdl (92::c::r)=some (c,2);rw[zir,zb3,if_neg (show ¬c=110 by omega),if_neg (show ¬c=114 by omega),if_neg (show ¬c=116 by omega),if_pos hx];rfl
 by_cases h5:c<32∨(127<=c/\c<=191)∨(cl=true/\c=45)
 ·have e:formL c cl=[92,48+c/64,48+c/8%8,48+c%8]:=by unfold formL;rw[if_neg h1,if_neg h2,if_neg h3,if_neg h4,if_pos h5]
  rw[e];show rdl (92::(48+c/64)::(48+c/8%8)::(48+c%8)::r)=some (c,4);have he:esc ((48+c/64)::(48+c/8%8)::(48+c%8)::r)=(c,3):=by
   rw[zb3,if_neg U,if_neg U,if_neg U,if_neg U,if_pos U];show numF 0 0 [48+c/64,48+c/8%8,48+c%8]=(c,3);rw[yafw _ _ _ U U U];congr 1;omega
  rw[zir,he];rfl
 ·have e:formL c cl=[c]:=by unfold formL;rw[if_neg h1,if_neg h2,if_neg h3,if_neg h4,if_neg h5]
  rw[e];exact zdi c r U
theorem yagp (c:Nat):∃d t,formL c false=d::t/\d≠39:=by
 by_cases h:c=39
 ·subst h;exact⟨92,[39],rfl,ja⟩
 ·unfold formL
  split
  ·exact⟨_,_,rfl,ja⟩
  split
  ·exact⟨_,_,rfl,ja⟩
  split
  ·exact⟨_,_,rfl,ja⟩
  split
  ·exact⟨_,_,rfl,ja⟩
  split
  ·exact⟨_,_,rfl,ja⟩
  ·exact⟨_,_,rfl,h⟩
def z92 (l:List Nat):List Nat:=l.flatMap fun c=>formL c false
def litL (l:List Nat):List Nat:=39::z92 l++[39]
theorem yabx (l:List Nat)(c:Nat):z92 (l++[c])=z92 l++formL c false:=by unfold z92;rw[List.flatMap_append];simp
theorem z9a (c:Nat)(cl:Bool):(formL c cl).length<=4:=by
 unfold formL;split
 ·decide
 split
 ·decide
 split
 ·decide
 split
 ·exact(by decide:2<=4)
 split
 ·exact qac 4
 ·exact(by decide:1<=4)
theorem yaaa:∀l:List Nat,(z92 l).length<=4*l.length
 | []=>qac _
 |c::l=>by
  have h1:=z9a c false;have h2:=yaaa l;have e:z92 (c::l)=formL c false++z92 l:=rfl;rw[e,List.length_append,qah];omega
theorem yagq (l:List Nat)(h:∀x,x ∈ l->x<256):∀x,x ∈ z92 l->x<256:=by
 intro x hx;obtain⟨c,hc,hx⟩:=List.mem_flatMap.1 hx;exact yabm c false (h c hc) x hx
theorem yagr (l:List Nat)(h:∀x,x ∈ l->x<256):∀x,x ∈ litL l->x<256:=by
 intro x hx;unfold litL at hx;rw[List.mem_append,qbk] at hx;rcases hx with(rfl|hx)|hx
 ·decide
 ·exact yagq l h x hx
 ·rw[List.mem_singleton] at hx;subst hx;decide
structure PN where
 op:Int
 kids:List Int
 rule:Int
 s0:Int
 s1:Int
 s2:Int
 s3:Int
structure PR where
 name:ByteArray
 root:Int
theorem PN.eq_iff (n m:PN):(n.op=m.op/\n.kids=m.kids/\n.rule=m.rule/\n.s0=m.s0/\n.s1=m.s1/\n.s2=m.s2/\n.s3=m.s3)↔n=m:=by
 cases n;cases m;simp
instance:DecidableEq PN:=fun n m=>decidable_of_iff _ (PN.eq_iff n m)
theorem PR.eq_iff (n m:PR):(n.name=m.name/\n.root=m.root)↔n=m:=by
 cases n;cases m;simp
instance:DecidableEq PR:=fun n m=>decidable_of_iff _ (PR.eq_iff n m)
def zd6 (ns:List PN)(i:Nat):List Int:=match ns[i]? with
 |some n=>n.kids
 |none=>[]
theorem zdm {ns:List PN}{i:Nat}{n:PN}(h:ns[i]?=some n):zd6 ns i=n.kids:=by unfold zd6;rw[h]
def zbi (ex:Int->Int):List Int->Int->Int
 | [],a=>a
 |k::ks,a=>if k=a then (if ex a=-2 then -2 else zbi ex ks (ex a)) else -2
theorem zcj {ex:Int->Int}{a:Int}(h:ex a ≠ -2):zbi ex (a::ks) a=zbi ex ks (ex a):=by
 show(if a=a then (if ex a=-2 then -2 else zbi ex ks (ex a)) else -2)=_;rw[if_pos rfl,if_neg h]
theorem zcx {ex:Int->Int}{a:Int}(h:ex a=-2):zbi ex (a::ks) a=-2:=by
 show(if a=a then (if ex a=-2 then -2 else zbi ex ks (ex a)) else -2)=_;rw[if_pos rfl,if_pos h]
theorem zdd {ex:Int->Int}{k:Int}(h:k≠a):zbi ex (k::ks) a=-2:=by
 show(if k=a then (if ex a=-2 then -2 else zbi ex ks (ex a)) else -2)=_;rw[if_neg h]
theorem zdn {ex:Int->Int}{k:Int}(h:zbi ex (k::ks) a ≠ -2):k=a/\ex a ≠ -2/\zbi ex (k::ks) a=zbi ex ks (ex a):=by
 by_cases hk:k=a
 ·subst hk
  by_cases he:ex k=-2
  ·exact absurd (zcx he) h
  ·exact⟨rfl,he,zcj he⟩
 ·exact absurd (zdd hk) h
def exF (ns:List PN):Nat->Int->Int
 |0,_=>-2
 |f+1,i=>if i<0 then -2 else zbi (exF ns f) (zd6 ns i.toNat).reverse (i-1)
theorem zqm (ns:List PN):∀(f:Nat) (i:Int),exF ns f i ≠ -2 -> -1<=exF ns f i/\exF ns f i<i/\0<=i
 |0,i,h=>absurd rfl h
 |f+1,i,h=>by
  have hd:exF ns (f+1) i=if i<0 then -2 else zbi (exF ns f) (zd6 ns i.toNat).reverse (i-1):=rfl
  by_cases hi:i<0
  ·rw[hd,if_pos hi] at h;exact absurd rfl h
  ·rw[hd,if_neg hi] at h ⊢
   have key:∀(ks:List Int) (a:Int),-1<=a->zbi (exF ns f) ks a ≠ -2 -> -1<=zbi (exF ns f) ks a/\zbi (exF ns f) ks a<=a:=by
    intro ks
    induction ks with
    |nil=>intro a ha _;exact⟨ha,qe9 _⟩
    |cons k ks ih=>
     intro a ha hc;obtain⟨-,he,hs⟩:=zdn hc;rw[hs] at hc ⊢;have h1:=zqm ns f a he;have h2:=ih _ h1.1 hc;omega
   have:=key _ (i-1) U h;omega
theorem zqn (ns:List PN):∀(f g:Nat) (i:Int),i<f->i<g->exF ns f i=exF ns g i
 |0,0,i,_,_=>rfl
 |0,g+1,i,h,_=>by
  show -2=if i<0 then -2 else _
  rw[if_pos U]
 |f+1,0,i,_,h=>by
  show(if i<0 then -2 else _)=-2;rw[if_pos U]
 |f+1,g+1,i,h,h'=>by
  show(if i<0 then -2 else zbi (exF ns f) (zd6 ns i.toNat).reverse (i-1))=(if i<0 then -2 else zbi (exF ns g) (zd6 ns i.toNat).reverse (i-1));by_cases hi:i<0
  ·rw[if_pos hi,if_pos hi]
  ·rw[if_neg hi,if_neg hi]
   have key:∀(ks:List Int) (a:Int),a<f->a<g->zbi (exF ns f) ks a=zbi (exF ns g) ks a:=by
    intro ks
    induction ks with
    |nil=>intro a _ _;rfl
    |cons k ks ih=>
     intro a ha hb;have he:=zqn ns f g a ha hb;by_cases hk:k=a
     ·subst hk
      by_cases h2:exF ns f k=-2
      ·rw[zcx h2,zcx (he ▸ h2)]
      ·have h3:exF ns g k ≠ -2:=he ▸ h2
       rw[zcj h2,zcj h3,<-he];have:=zqm ns f k h2;exact ih _ U U
     ·rw[zdd hk,zdd hk]
   exact key _ _ U U
def exL (ns:List PN)(i:Int):Int:=exF ns (i.toNat+1) i
theorem z3i (ns:List PN)(f:Nat)(i:Int)(h:i<f):exF ns f i=exL ns i:=zqn ns _ _ _ h U
theorem zue (ns:List PN)(i:Int)(h:i<0):exL ns i=-2:=by
 show(if i<0 then -2 else _)=-2;rw[if_pos h]
theorem zhq {f g:Int->Int}(hf:∀a,f a ≠ -2->f a<a):∀(ks:List Int) (a:Int),(∀b,b<=a->f b=g b)->zbi f ks a=zbi g ks a
 | [],a,_=>rfl
 |k::ks,a,h=>by
  have he:=h a (qe9 _);by_cases hk:k=a
  ·subst hk
   by_cases h2:f k=-2
   ·rw[zcx h2,zcx (he ▸ h2)]
   ·have h3:g k ≠ -2:=he ▸ h2
    rw[zcj h2,zcj h3,<-he];have:=hf k h2;exact zhq hf ks _ (fun b hb=>h b U)
  ·rw[zdd hk,zdd hk]
theorem zj5 (ns:List PN)(i:Int)(h:exL ns i ≠ -2):-1<=exL ns i/\exL ns i<i/\0<=i:=zqm ns _ _ h
theorem zqo (ns:List PN)(i:Int)(h:0<=i):exL ns i=zbi (exL ns) (zd6 ns i.toNat).reverse (i-1):=by
 have:exL ns i=zbi (exF ns i.toNat) (zd6 ns i.toNat).reverse (i-1):=by
  show(if i<0 then -2 else zbi (exF ns i.toNat) (zd6 ns i.toNat).reverse (i-1))=_;rw[if_neg U]
 rw[this];exact zhq (fun a ha=>(zqm ns _ a ha).2.1) _ _ (fun b hb=>z3i ns _ _ U)
theorem zit {ns:List PN}(i:Int)(hI:∀j,j<i->exL ns j ≠ -2->∀x,exL ns j<x->x<=j->exL ns x ≠ -2/\exL ns j<=exL ns x) :
  ∀(ks:List Int) (a:Int),a<i->zbi (exL ns) ks a ≠ -2->zbi (exL ns) ks a<=a/\∀x,zbi (exL ns) ks a<x->x<=a->exL ns x ≠ -2/\zbi (exL ns) ks a<=exL ns x:=by
 intro ks
 induction ks with
 |nil=>intro a _ _;exact⟨qe9 _,fun x h1 h2=>absurd (show a<x from h1) U⟩
 |cons k ks ih=>
  intro a ha hc;obtain⟨-,he,hs⟩:=zdn hc;rw[hs] at hc ⊢;have h1:=zj5 ns a he;obtain⟨h2,h3⟩:=ih _ U hc;refine⟨U,fun x hx hxa=>?_⟩;by_cases hx2:x<=exL ns a
  ·exact h3 x hx hx2
  ·have:=hI a ha he x U hxa
   exact⟨this.1,U⟩
theorem zqp (ns:List PN):∀(n:Nat) (i:Int),i.toNat<n->exL ns i ≠ -2->∀x,exL ns i<x->x<=i->exL ns x ≠ -2/\exL ns i<=exL ns x
 |0,i,hn,_=>absurd hn (Nat.not_lt_zero _)
 |n+1,i,hn,he=>by
  have hi:=zj5 ns i he;intro x hx hxi;by_cases hxe:x=i
  ·subst hxe;exact⟨he,qe9 _⟩
  ·have hq:=zqo ns i hi.2.2
   rw[hq] at he hx ⊢;exact(zit i (fun j hj hje=>by
    have:=zj5 ns j hje;exact zqp ns n j U hje) _ _ U he).2 x hx U
theorem zj6 {ns:List PN}{x:Int}(he:exL ns i ≠ -2)(h1:exL ns i<x)(h2:x<=i):exL ns x ≠ -2/\exL ns i<=exL ns x:=zqp ns _ i (Nat.lt_succ_self _) he x h1 h2
def ordR (ns:List PN):List PR->Int->Bool
 | [],b=>b == (ns.length:Int)-1
 |r::t,b=>if r.root<=b∨(ns.length:Int)<=r.root∨exL ns r.root≠b then false else ordR ns t r.root
theorem zuf {ns:List PN}{r:PR}{t:List PR}{b:Int}(h:ordR ns (r::t) b=true):b<r.root/\r.root<ns.length/\exL ns r.root=b/\ordR ns t r.root=true:=by
 by_cases hc:r.root<=b∨(ns.length:Int)<=r.root∨exL ns r.root≠b
 ·have:ordR ns (r::t) b=false:=by
   show(if r.root<=b∨(ns.length:Int)<=r.root∨exL ns r.root≠b then false else ordR ns t r.root)=false;rw[if_pos hc]
  rw[this] at h;cases h
 ·have:ordR ns (r::t) b=ordR ns t r.root:=by
   show(if r.root<=b∨(ns.length:Int)<=r.root∨exL ns r.root≠b then false else ordR ns t r.root)=_;rw[if_neg hc]
  rw[this] at h;exact⟨U,U,U,h⟩
theorem zug {ns:List PN}{r:PR}{t:List PR}{b:Int}(h1:b<r.root)(h2:r.root<ns.length)(h3:exL ns r.root=b):ordR ns (r::t) b=ordR ns t r.root:=by
 show(if r.root<=b∨(ns.length:Int)<=r.root∨exL ns r.root≠b then false else ordR ns t r.root)=_;rw[if_neg U]
theorem zlg {ns:List PN}:∀(rs:List PR) (b:Int),-1<=b->ordR ns rs b=true->b<ns.length/\∀x,b<x->x<ns.length->exL ns x ≠ -2/\b<=exL ns x
 | [],b,_,h=>by
  have:b=(ns.length:Int)-1:=by simpa [ordR] using h
  exact⟨U,fun x h1 h2=>U⟩
 |r::t,b,hb,h=>by
  obtain⟨h1,h2,h3,h4⟩:=zuf h;obtain⟨h5,h6⟩:=zlg t r.root U h4;refine⟨U,fun x hx hn=>?_⟩;by_cases hxr:x<=r.root
  ·have:=zj6 (ns:=ns) (i:=r.root) (x:=x) U U hxr
   exact⟨this.1,U⟩
  ·have:=h6 x U hn
   exact⟨this.1,U⟩
def AllEx (ns:List PN):Prop:=∀x:Int,0<=x->x<ns.length->exL ns x ≠ -2
theorem zuh {ns:List PN}{rs:List PR}(h:ordR ns rs (-1)=true):AllEx ns:=fun x h1 h2=>((zlg rs (-1) U h).2 x U h2).1
theorem zj7 {ns:List PN}:∀(ks:List Int) (a:Int),zbi (exL ns) ks a ≠ -2->∀k,k ∈ ks->0<=k/\k<=a
 | [],_,_,k,hk=>by cases hk
 |x::ks,a,h,k,hk=>by
  obtain⟨rfl,he,hs⟩:=zdn h;have hl:=zj5 ns x he;rw[hs] at h;rcases qbk.1 hk with rfl|hk
  ·exact⟨hl.2.2,qe9 _⟩
  ·have:=zj7 ks _ h k hk
   omega
def zdo (ns:List PN):Prop:=∀(i:Nat) (n:PN),ns[i]?=some n->∀k,k ∈ n.kids->0<=k/\k<(i:Int)
theorem AllEx.kids {ns:List PN}(h:AllEx ns):zdo ns:=fun i n hn k hk=>by
 have hl:=(qag.1 hn).1;have he:=h i U U;rw[zqo ns i U] at he;have hk':k ∈ (zd6 ns (i:Int).toNat).reverse:=by
  rw[show(i:Int).toNat=i by omega,zdm hn];exact List.mem_reverse.2 hk
 have:=zj7 _ _ he k hk';omega
def popL:List Int->List Int->Option (List Int)
 | [],st=>some st
 |_::_,[]=>none
 |k::ks,x::st=>if k=x then popL ks st else none
def stepO (rs:List PR)(n:PN)(i:Int)(st:List Int)(r:Nat):Option (List Int × Nat):=
 match popL n.kids.reverse st with
 |none=>none
 |some st'=>match rs[r]? with
  |none=>some (i::st',r)
  |some x=>if x.root=i then (if st'=[] then some ([],r+1) else none) else some (i::st',r)
def runO (rs:List PR):List PN->Int->List Int->Nat->Bool
 | [],_,st,r=>st.isEmpty&&decide (rs.length<=r)
 |n::ns,i,st,r=>match stepO rs n i st r with
  |none=>false
  |some (st',r')=>runO rs ns (i+1) st' r'
def StackIs (ns:List PN):List Int->Int->Int->Prop
 | [],a,b=>a=b
 |x::st,a,b=>x=a/\exL ns x ≠ -2/\b<x/\StackIs ns st (exL ns x) b
theorem StackIs.le {ns:List PN}:∀ {st:List Int} {a b:Int},StackIs ns st a b->b<=a
 | [],_,_,h=>Int.le_of_eq h.symm
 |x::st,a,b,⟨h1,h2,h3,h4⟩=>U
theorem zms {ns:List PN}:∀(ks st:List Int) (a b:Int),-1<=b->StackIs ns st a b->∀st',popL ks st=some st'->zbi (exL ns) ks a ≠ -2/\StackIs ns st' (zbi (exL ns) ks a) b
 | [],st,a,b,hb,hs,st',h=>by
  cases h;refine⟨?_,hs⟩;have:=hs.le;show a ≠ -2;omega
 |k::ks,[],a,b,_,hs,st',h=>by cases h
 |k::ks,x::st,a,b,hb,⟨h1,h2,h3,h4⟩,st',h=>by
  have hd:popL (k::ks) (x::st)=if k=x then popL ks st else none:=rfl
  by_cases hk:k=x
  ·rw[hd,if_pos hk] at h
   subst hk;subst h1;have:=zms ks st (exL ns k) b hb h4 st' h;rw[zcj h2];exact this
  ·rw[hd,if_neg hk] at h;cases h
theorem zy4 {ns:List PN}(ks:List Int)(a:Int)(h:zbi (exL ns) ks a ≠ -2):zbi (exL ns) ks a<=a:=
 (zit (a+1) (fun j _ hje x h1 h2=>zj6 hje h1 h2) ks a U h).1
theorem zmt {ns:List PN}:∀(ks st:List Int) (a b:Int),StackIs ns st a b->zbi (exL ns) ks a ≠ -2->b<=zbi (exL ns) ks a->∃st',popL ks st=some st'
 | [],st,a,b,_,_,_=>⟨st,rfl⟩
 |k::ks,[],a,b,hs,he,hb=>by
  obtain⟨rfl,h1,h2⟩:=zdn he;rw[h2] at he hb;have h3:=zy4 ks _ he;have h4:=zj5 ns k h1;have h5:k=b:=hs;omega
 |k::ks,x::st,a,b,⟨h1,h2,h3,h4⟩,he,hb=>by
  obtain⟨rfl,h5,h6⟩:=zdn he;subst h1;rw[h6] at he hb;have hd:popL (x::ks) (x::st)=if x=x then popL ks st else none:=rfl
  rw[hd,if_pos rfl];exact zmt ks st _ b h4 he hb
theorem zg4 {rs:List PR}{n:PN}{r:Nat}(h:popL n.kids.reverse st=none):stepO rs n i st r=none:=by unfold stepO;rw[h]
theorem zmu {rs:List PR}{n:PN}{i:Int}{r:Nat}(h:popL n.kids.reverse st=some st')(hr:rs[r]?=none):stepO rs n i st r=some (i::st',r):=by
 unfold stepO;rw[h];dsimp only;rw[hr]
theorem zj8 {rs:List PR}{n:PN}{r:Nat}{x:PR}(h:popL n.kids.reverse st=some [])(hr:rs[r]?=some x)(hx:x.root=i):stepO rs n i st r=some ([],r+1):=by
 unfold stepO;rw[h];dsimp only;rw[hr];dsimp only;rw[if_pos hx,if_pos rfl]
theorem zj9 {rs:List PR}{n:PN}{y:Int}{r:Nat}{x:PR}(h:popL n.kids.reverse st=some (y::st'))(hr:rs[r]?=some x)(hx:x.root=i):stepO rs n i st r=none:=by
 unfold stepO;rw[h];dsimp only;rw[hr];dsimp only;rw[if_pos hx,if_neg jc]
theorem zqq {rs:List PR}{n:PN}{i:Int}{r:Nat}{x:PR}(h:popL n.kids.reverse st=some st')(hr:rs[r]?=some x)(hx:x.root≠i):stepO rs n i st r=some (i::st',r):=by
 unfold stepO;rw[h];dsimp only;rw[hr];dsimp only;rw[if_neg hx]
theorem zey {rs:List PR}{n:PN}{ns:List PN}{r:Nat}(h:stepO rs n i st r=none):runO rs (n::ns) i st r=false:=by
 show(match stepO rs n i st r with|none=>false|some (st',r')=>runO rs ns (i+1) st' r')=_;rw[h]
theorem zd7 {rs:List PR}{n:PN}{ns:List PN}{r r':Nat}(h:stepO rs n i st r=some (st',r')):runO rs (n::ns) i st r=runO rs ns (i+1) st' r':=by
 show(match stepO rs n i st r with|none=>false|some (st',r')=>runO rs ns (i+1) st' r')=_;rw[h]
theorem zia {rs:List PR}{ns:List PN}:∀(rest:List PN) (i:Nat) (st:List Int) (r:Nat) (b:Int),ns.drop i=rest->i<=ns.length->r<=rs.length -> -1<=b->StackIs ns st ((i:Int)-1) b ->
  (∀x,rs[r]?=some x->x.root<=b∨(i:Int)<=x.root)->runO rs rest i st r=ordR ns (rs.drop r) b
 | [],i,st,r,b,hd,hi,hr,hb,hs,hx=>by
  have hin:i=ns.length:=by
   have:=congrArg List.length hd;rw[qa2,List.length_nil] at this;omega
  show(st.isEmpty&&decide (rs.length<=r))=_;by_cases hrl:rs.length<=r
  ·rw[qay hrl]
   show _=(b == (ns.length:Int)-1);cases st with
   |nil=>
    have h1:(i:Int)-1=b:=hs;simp[hrl];omega
   |cons x st=>
    obtain⟨h1,h2,h3,h4⟩:=hs;simp;omega
  ·obtain⟨x,hq⟩:∃x,rs[r]?=some x:=⟨_,qae U⟩
   have hq2:=(qag.1 hq);rw[qbr U,hq2.2];have:=hx x hq;show _=(if x.root<=b∨(ns.length:Int)<=x.root∨exL ns x.root≠b then false else _);rw[if_pos U,decide_eq_false U,Bool.and_false]
 |n::rest,i,st,r,b,hd,hi,hr,hb,hs,hx=>by
  have hil:i<ns.length:=by
   rcases Nat.lt_or_ge i ns.length with h|h
   ·exact h
   ·rw[qay h] at hd;cases hd
  have hcons:=qbr hil;rw[hd] at hcons;have hn:ns[i]?=some n:=by rw[qae hil];injection hcons with h1 h2;rw[h1]
  have hd':ns.drop (i+1)=rest:=by injection hcons with h1 h2;exact h2.symm
  have he:exL ns i=zbi (exL ns) n.kids.reverse ((i:Int)-1):=by
   rw[zqo ns i U,show(i:Int).toNat=i by omega,zdm hn]
  have hle:=hs.le;cases hp:popL n.kids.reverse st with
  |none=>
   rw[zey (zg4 hp)];cases ho:ordR ns (rs.drop r) b with
   |false=>rfl
   |true=>
    have h1:=(zlg _ b hb ho).2 i U U;rw[he] at h1;obtain⟨st',h2⟩:=zmt _ st _ b hs h1.1 h1.2;rw[h2] at hp;cases hp
  |some st'=>
   have hc:=zms _ st _ b hb hs st' hp;rw[<-he] at hc;have hnew:StackIs ns ((i:Int)::st') (((i+1:Nat):Int)-1) b:=⟨U,hc.1,U,hc.2⟩;cases hrx:rs[r]? with
   |none=>
    rw[zd7 (zmu hp hrx),show(i:Int)+1=((i+1:Nat):Int) by omega];exact zia rest (i+1) _ r b hd' U hr hb hnew (fun x h=>by rw[hrx] at h;cases h)
   |some x=>
    have hrl:=(qag.1 hrx);have hrl1:=hrl.1;have hcd:rs.drop r=x::rs.drop (r+1):=by rw[qbr hrl.1,hrl.2]
    by_cases hxi:x.root=i
    ·cases st' with
     |nil=>
      have hb2:exL ns (i:Int)=b:=hc.2;rw[zd7 (zj8 hp hrx hxi),hcd,zug U U (by rw[hxi];exact hb2),show(i:Int)+1=((i+1:Nat):Int) by omega];rw[zia rest (i+1) [] (r+1) i hd' U U U (show((i+1:Nat):Int)-1=i by omega) (fun y _=>U),hxi]
     |cons y st''=>
      rw[zey (zj9 hp hrx hxi),hcd];have h0:y=exL ns i/\exL ns y ≠ -2/\b<y/\StackIs ns st'' (exL ns y) b:=hc.2;have h1:=h0.1;have h3:=h0.2.2.1;have hne:exL ns x.root≠b:=by rw[hxi,<-h1];omega
      show _=(if x.root<=b∨(ns.length:Int)<=x.root∨exL ns x.root≠b then false else _);rw[if_pos (Or.inr (Or.inr hne))]
    ·rw[zd7 (zqq hp hrx hxi),show(i:Int)+1=((i+1:Nat):Int) by omega]
     exact zia rest (i+1) _ r b hd' U hr hb hnew (fun z h=>by
      have h1:=hx z h;rw[hrx] at h;obtain rfl:=qar h;omega)
theorem z3j (rs:List PR)(ns:List PN):runO rs ns 0 [] 0=ordR ns rs (-1):=by
 have:=zia (rs:=rs) (ns:=ns) ns 0 [] 0 (-1) rfl (qaj _) (qaj _) U (show((0:Nat):Int)-1=-1 by omega) (fun x _=>U);exact this
def maxK (ds:List Nat)(ks:List Int):Nat:=ks.foldl (fun m k=>max m (ds.getD k.toNat 0)) 0
def depsL (ns:List PN):List Nat:=ns.foldl (fun ds n=>ds++[maxK ds n.kids+1]) []
theorem zka (ns:List PN)(n:PN):depsL (ns++[n])=depsL ns++[maxK (depsL ns) n.kids+1]:=by unfold depsL;rw[List.foldl_append];rfl
theorem zez (ns:List PN):(depsL ns).length=ns.length:=by
 have key:∀(ns:List PN) (ds:List Nat),(ns.foldl (fun ds n=>ds++[maxK ds n.kids+1]) ds).length=ds.length+ns.length:=by
  intro ns
  induction ns with
  |nil=>intro ds;rfl
  |cons n ns ih=>intro ds;rw[qc5,ih,List.length_append,List.length_singleton,qah];omega
 have:=key ns [];rw[List.length_nil,qbc] at this;exact this
theorem zkb (ns:List PN):∀(m i:Nat),i+m=ns.length->(depsL ns).take i=depsL (ns.take i)
 |0,i,h=>by rw[qa4 (by rw[zez];omega),qa4 U]
 |m+1,i,h=>by
  have ih:=zkb ns m (i+1) U;rw[List.take_succ_eq_append_getElem (by omega:i<ns.length),zka] at ih;have h2:=congrArg (List.take i) ih;have hl:(depsL (ns.take i)).length=i:=by rw[zez,List.length_take];omega
  rw[List.take_take,Nat.min_eq_left (Nat.le_succ i),List.take_append_of_le_length U] at h2;rw[h2,qa4 U]
def dpL (ns:List PN)(i:Nat):Nat:=(depsL ns).getD i 0
theorem zqr (ns:List PN)(i k:Nat)(hk:k<i)(hi:i<=ns.length):(depsL (ns.take i)).getD k 0=dpL ns k:=by
 rw[<-zkb ns (ns.length-i) i U];unfold dpL;simp only[List.getD];rw[List.getElem?_take,if_pos hk]
theorem zkc {ds es:List Nat}:∀(ks:List Int) (m:Nat),(∀k,k ∈ ks->ds.getD k.toNat 0=es.getD k.toNat 0)->ks.foldl (fun m k=>max m (ds.getD k.toNat 0)) m=ks.foldl (fun m k=>max m (es.getD k.toNat 0)) m
 | [],_,_=>rfl
 |k::ks,m,h=>by
  rw[qc5,qc5,h k qap];exact zkc ks _ (fun x hx=>h x (qa9 _ hx))
theorem zqs {ns:List PN}(hk:zdo ns){i:Nat}{n:PN}(hn:ns[i]?=some n):dpL ns i=maxK (depsL ns) n.kids+1:=by
 obtain⟨hi,hni⟩:=qag.1 hn;have h1:=zqr ns (i+1) i (Nat.lt_succ_self _) hi;rw[<-h1,List.take_succ_eq_append_getElem hi,zka,hni];simp only[List.getD];have hl:(depsL (ns.take i)).length=i:=by rw[zez,List.length_take];omega
 rw[List.getElem?_append_right U,hl,Nat.sub_self];show maxK _ _+1=_;unfold maxK;rw[zkc (es:=depsL ns) n.kids 0 (fun k hm=>by
  have:=hk i n hn k hm;exact zqr ns i k.toNat U U)]
theorem zui {ds:List Nat}{b:Nat}:∀(ks:List Int) (m:Nat),m<=b->(∀k,k ∈ ks->ds.getD k.toNat 0<=b)->ks.foldl (fun m k=>max m (ds.getD k.toNat 0)) m<=b
 | [],_,hm,_=>hm
 |k::ks,m,hm,h=>by
  rw[qc5];have:=h k qap;exact zui ks _ U (fun x hx=>h x (qa9 _ hx))
theorem zuj {ns:List PN}(hk:zdo ns):∀(m i:Nat),i<m->i<ns.length->dpL ns i<=i+1
 |0,i,h,_=>absurd h (Nat.not_lt_zero _)
 |m+1,i,h,hi=>by
  obtain⟨n,hn⟩:∃n,ns[i]?=some n:=⟨_,qae hi⟩;rw[zqs hk hn];have:=zui (ds:=depsL ns) (b:=i) n.kids 0 (qaj _) (fun k hm=>by
   have h1:=hk i n hn k hm;have h2:=zuj hk m k.toNat U U;show dpL ns k.toNat<=i;omega)
  unfold maxK;omega
def rdF (ns:List PN):Nat->Int->Nat
 |0,_=>1
 |m+1,i=>(zd6 ns i.toNat).foldl (fun d k=>max d (rdF ns m k)) 0+1
theorem zuk {ns:List PN}(hk:zdo ns):∀(m:Nat) (i:Int),0<=i->i<ns.length->rdF ns m i=min (dpL ns i.toNat) (m+1)
 |0,i,h0,hi=>by
  obtain⟨n,hn⟩:∃n,ns[i.toNat]?=some n:=⟨_,qae U⟩;rw[zqs hk hn];show 1=_;omega
 |m+1,i,h0,hi=>by
  obtain⟨n,hn⟩:∃n,ns[i.toNat]?=some n:=⟨_,qae U⟩;show(zd6 ns i.toNat).foldl (fun d k=>max d (rdF ns m k)) 0+1=_;rw[zqs hk hn,zdm hn];have key:∀(ks:List Int) (d e:Nat),(∀k,k ∈ ks->0<=k/\k<(i.toNat:Int))->d=min e (m+1)->ks.foldl (fun d k=>max d (rdF ns m k)) d=min (ks.foldl (fun m k=>max m ((depsL ns).getD k.toNat 0)) e) (m+1):=by
   intro ks
   induction ks with
   |nil=>intro d e _ h;exact h
   |cons k ks ih=>
    intro d e hb h;rw[qc5,qc5];refine ih _ _ (fun x hx=>hb x (qa9 _ hx)) ?_;have hk1:=hb k qap;rw[zuk hk m k hk1.1 U,h];show _=min (max e (dpL ns k.toNat)) (m+1);omega
  have:=key n.kids 0 0 (hk i.toNat n hn) U;rw[this];unfold maxK;omega
def fbad (p:Nat->Bool):Nat->Nat->Option Nat
 |0,_=>none
 |m+1,i=>if p i then some i else fbad p m (i+1)
theorem zbn {p:Nat->Bool}{i:Nat}(h:p i=true):fbad p (m+1) i=some i:=by
 show(if p i then some i else fbad p m (i+1))=_;rw[if_pos h]
theorem zbz {p:Nat->Bool}{i:Nat}(h:p i=false):fbad p (m+1) i=fbad p m (i+1):=by
 show(if p i then some i else fbad p m (i+1))=_;rw[if_neg (by rw[h];exact Bool.false_ne_true)]
theorem zfu {p:Nat->Bool}:∀(m i k:Nat),fbad p m i=some k->i<=k/\k<i+m/\p k=true
 |0,i,k,h=>by cases h
 |m+1,i,k,h=>by
  cases hp:p i with
  |true=>rw[zbn hp] at h;cases h;exact⟨qac _,U,hp⟩
  |false=>rw[zbz hp] at h;have:=zfu m (i+1) k h;exact⟨U,U,this.2.2⟩
theorem zdp {p:Nat->Bool}:∀(m i:Nat),fbad p m i=none->∀k,i<=k->k<i+m->p k=false
 |0,i,_,k,h1,h2=>U
 |m+1,i,h,k,h1,h2=>by
  cases hp:p i with
  |true=>rw[zbn hp] at h;cases h
  |false=>
   rw[zbz hp] at h;by_cases hk:k=i
   ·subst hk;exact hp
   ·exact zdp m (i+1) h k U U
def zbp (rs:List PR)(i:Nat):Bool:=match rs[i]? with
 |some r=>(rs.take i).any (fun x=>decide (x.name=r.name)) || !nameB (bts r.name)
 |none=>false
def madeB (n:PN)(rules:Nat):Bool:=
 decide (0<=n.op)&&decide (n.op<=9)&&(if n.op<=2 then n.kids.length == 0 else if n.op<=4 then decide (2<=n.kids.length) else n.kids.length == 1) &&
  (if n.op=2 then decide (0<=n.rule)&&decide (n.rule<rules) else n.rule == 0)&&(n.op == 1 || (n.s0 == 0&&n.s1 == 0&&n.s2 == 0&&n.s3 == 0))
def zbv (ns:List PN)(rules:Nat)(i:Nat):Bool:=match ns[i]? with
 |some n=>!madeB n rules
 |none=>false
def zb2 (ns:List PN)(i:Nat):Bool:=decide (200<dpL ns i)
inductive Chk where
 |ok
 |large
 |rules (i:Nat)
 |nodes (i:Nat)
 |order
 |deep (i:Nat)
def chkL (rs:List PR)(ns:List PN):Chk:=
 if 1000<rs.length∨10000<ns.length then .large else
 if rs.length=0 then .rules 0 else
 match fbad (zbp rs) rs.length 0 with
 |some i=>.rules i
 |none=>match fbad (zbv ns rs.length) ns.length 0 with
  |some i=>.nodes i
  |none=>if ordR ns rs (-1) then (match fbad (zb2 ns) ns.length 0 with
    |some i=>.deep i
    |none=>.ok) else .order
theorem z3k {rs:List PR}{ns:List PN}(h:chkL rs ns=.ok):rs.length<=1000/\ns.length<=10000/\0<rs.length/\(∀i,i<rs.length->zbp rs i=false)/\(∀i,i<ns.length->zbv ns rs.length i=false)/\ordR ns rs (-1)=true/\∀i,i<ns.length->dpL ns i<=200:=by
 unfold chkL at h;split at h
 ·cases h
 ·split at h
  ·cases h
  ·split at h
   ·cases h
   ·split at h
    ·cases h
    ·split at h
     ·split at h
      ·cases h
      ·rename_i h1 h2 _ h3 _ h4 h5 _ h6
       refine⟨U,U,U,fun i hi=>zdp _ 0 h3 i (qaj _) U,fun i hi=>zdp _ 0 h4 i (qaj _) U,h5,fun i hi=>?_⟩;have:=zdp _ 0 h6 i (qaj _) U;unfold zb2 at this;simpa using this
     ·cases h
open Go.RowKit
def fill:List Oper->Nat->(Nat->Bool)->(Nat->Value)->Act->Act
 | [],_,_,_,a=>a
 |o::r,i,L,vals,a=>fill r (i+1) L vals (if L i then a.put o.dst (vals i) else a)
def ziu:List Oper->Bool
 | []=>true
 |o::r=>(r.all fun o'=>o.dst.isNone || o'.dst != o.dst)&&ziu r
theorem zg5:∀(l:List Oper) (i:Nat) (L L':Nat->Bool) (vals vals':Nat->Value) (a:Act),(∀k,i<=k->L k=L' k/\vals k=vals' k)->fill l i L vals a=fill l i L' vals' a
 | [],_,_,_,_,_,_,_=>rfl
 |o::r,i,L,L',vals,vals',a,h=>by
  unfold fill;rw[(h i (qac _)).1,(h i (qac _)).2];exact zg5 r (i+1) L L' vals vals' _ fun k hk=>h k U
theorem zqu:∀(l:List Oper) (i:Nat) (L:Nat->Bool) (vals:Nat->Value) (a:Act) (d:Option Tmp) (v:Value),(∀o,o ∈ l->d=none∨o.dst≠d)->(fill l i L vals a).put d v=fill l i L vals (a.put d v)
 | [],_,_,_,_,_,_,_=>rfl
 |o::r,i,L,vals,a,d,v,h=>by
  unfold fill;rw[zqu r (i+1) L vals _ d v fun o' ho=>h o' (qbk.2 (Or.inr ho))];congr 1;split
  ·rcases h o (qbk.2 (Or.inl rfl)) with rfl|hne
   ·rfl
   ·exact Act.put_comm a (vals i) v (fun t ht he=>hne (by rw[ht,he]))
  ·rfl
theorem zfh {o:Oper}{r:List Oper}(h:ziu (o::r)=true):(∀o',o' ∈ r->o.dst=none∨o'.dst≠o.dst)/\ziu r=true:=by
 unfold ziu at h;rw[qbs] at h;refine⟨fun o' ho=>?_,h.2⟩;have:=qci.1 h.1 o' ho;rw[Bool.or_eq_true] at this;rcases this with h1|h1
 ·exact .inl (by cases hd:o.dst with|none=>rfl|some d=>rw[hd] at h1;cases h1)
 ·exact .inr (by simpa using h1)
theorem zqv:∀(l:List Oper) (i j:Nat) (o:Oper) (L:Nat->Bool) (vals:Nat->Value) (a:Act) (v:Value),ziu l=true->l[j]?=some o->L (i+j)=false ->
  (fill l i L vals a).put o.dst v=fill l i (fun k=>if k=i+j then true else L k) (fun k=>if k=i+j then v else vals k) a
 | [],_,_,_,_,_,_,_,_,h,_=>by cases h
 |o'::r,i,0,o,L,vals,a,v,ha,h,hL=>by
  cases h;obtain⟨h1,-⟩:=zfh ha;rw[Nat.add_zero] at hL;unfold fill;rw[hL];simp only[Bool.false_eq_true,if_false,Nat.add_zero,if_true];rw[zqu r (i+1) L vals a _ v h1];exact zg5 _ _ _ _ _ _ _ fun k hk=>by rw[if_neg U,if_neg U];exact⟨rfl,rfl⟩
 |o'::r,i,j+1,o,L,vals,a,v,ha,h,hL=>by
  obtain⟨-,h2⟩:=zfh ha;unfold fill;have hi:(i=i+(j+1))=False:=jc
  simp only[hi,if_false];rw[show i+(j+1)=i+1+j from by omega] at hL ⊢;exact zqv r (i+1) j o L vals _ v h2 h hL
theorem zy6 (a:Act)(d:Option Tmp)(v:Value):(a.put d v).tmps.size=a.tmps.size:=by cases d<;>simp[Act.put]
theorem zdq:∀(l:List Oper) (i:Nat) (L:Nat->Bool) (vals:Nat->Value) (a:Act) (t:Tmp),(∀o,o ∈ l->o.dst≠some t)->(fill l i L vals a).eval (.tmp t)=a.eval (.tmp t)
 | [],_,_,_,_,_,_=>rfl
 |o::r,i,L,vals,a,t,h=>by
  unfold fill;rw[zdq r (i+1) L vals _ t fun o' ho=>h o' (qbk.2 (Or.inr ho))];split
  ·exact Act.eval_put fun d hd he=>h o (qbk.2 (Or.inl rfl)) (by injection he with he;rw[hd,he])
  ·rfl
theorem zmv:∀(l:List Oper) (i j:Nat) (o:Oper) (d:Tmp) (L:Nat->Bool) (vals:Nat->Value) (a:Act),ziu l=true->l[j]?=some o->o.dst=some d->L (i+j)=true->d<a.tmps.size ->
  (fill l i L vals a).eval (.tmp d)=vals (i+j)
 | [],_,_,_,_,_,_,_,_,h,_,_,_=>by cases h
 |o'::r,i,0,o,d,L,vals,a,ha,h,hd,hL,hs=>by
  cases h;obtain⟨h1,-⟩:=zfh ha;rw[Nat.add_zero] at hL ⊢;unfold fill;rw[hL,if_pos rfl,zdq r (i+1) L vals _ d fun o'' ho he=>(h1 o'' ho).elim (fun h=>by rw[hd] at h;cases h) (fun h=>h (by rw[hd,he]))];rw[hd];simp[Act.eval,Act.put,hs]
 |o'::r,i,j+1,o,d,L,vals,a,ha,h,hd,hL,hs=>by
  obtain⟨-,h2⟩:=zfh ha;unfold fill;rw[show i+(j+1)=i+1+j from by omega] at hL ⊢;refine zmv r (i+1) j o d L vals _ h2 h hd hL ?_;split
  ·rw[zy6];exact hs
  ·exact hs
def depB (l:List Oper)(o:Oper)(k:Nat)(d:Tmp):Bool:=(o.after.any fun e=>e.on == k&&Region.binds .any e)&&((l[k]?).bind (·.dst) == some d)
theorem zmw {P:Program}{md:Region.Mode}{ops:Array Oper}{Q:Exit->Act->World->Prop}(I:Array Bool->Act->World->Prop)
  (hstep:∀listed a w i o,ops[i]?=some o->i ∈ Region.ready md ops listed->I listed a w->wpOp P ops Q i (I (listed.setIfInBounds i true)) a w)
  (hdone:∀listed a w,Region.ready md ops listed=[]->I listed a w->Q .normal a w) :
  ∀(fuel:Nat) (listed:Array Bool) (a:Act) (w:World),(listed.toList.filter fun b=>!b).length<=fuel->listed.size=ops.size->I listed a w->wpAny P md ops Q fuel listed a w
 |0,listed,a,w,hf,hs,hI=>by
  have hr:Region.ready md ops listed=[]:=by
   rw[List.eq_nil_iff_forall_not_mem];intro j hj;obtain⟨h1,o,ho,-⟩:=mem_ready.1 hj;have hj':j<listed.size:=by rw[hs];exact(Array.getElem?_eq_some_iff.1 ho).1
   have hm:false ∈ listed.toList.filter fun b=>!b:=by
    rw[List.mem_filter];refine⟨?_,rfl⟩;rw[Array.getD_eq_getD_getElem?,Array.getElem?_eq_getElem hj'] at h1;have h1:listed[j]=false:=h1;rw[<-h1];simp
   have:=List.length_pos_of_mem hm;omega
  exact⟨hr,hdone _ _ _ hr hI⟩
 |fuel+1,listed,a,w,hf,hs,hI=>by
  refine⟨fun hr=>hdone _ _ _ hr hI,fun i hi=>?_⟩;obtain⟨h1,o,ho,-⟩:=mem_ready.1 hi;have hj':i<listed.size:=by rw[hs];exact(Array.getElem?_eq_some_iff.1 ho).1
  refine wpOp_mono (fun a' w' h=>?_) (hstep listed a w i o ho hi hI);refine zmw I hstep hdone fuel _ a' w' ?_ (by simpa using hs) h;rw[Array.getD_eq_getD_getElem?,Array.getElem?_eq_getElem hj'] at h1;have h1:listed[i]=false:=h1;rw[Array.toList_setIfInBounds];have key:∀(l:List Bool) (i:Nat),l[i]?=some false->((l.set i true).filter fun b=>!b).length+1=(l.filter fun b=>!b).length:=by
   intro l
   induction l with
   |nil=>intro i h;cases h
   |cons b l ih=>
    intro i h;cases i with
    |zero=>cases h;simp
    |succ i=>have:=ih i h;cases b<;>simp at this ⊢<;>omega
  have:=key listed.toList i (by rw[Array.getElem?_toList,Array.getElem?_eq_getElem hj',h1]);omega
def backB:List Oper->Nat->Bool
 | [],_=>true
 |o::r,i=>(o.after.all fun e=>decide (e.on<i))&&backB r (i+1)
theorem zqw:∀ {l:List Oper} {i:Nat},backB l i=true->∀ {j:Nat} {o:Oper},l[j]?=some o->∀e,e ∈ o.after->e.on<i+j
 | [],_,_,_,_,h=>by cases h
 |o::r,i,h,0,o',h'=>by
  cases h';unfold backB at h;rw[qbs] at h;intro e he;have:=Array.all_eq_true'.1 h.1 e he;simpa using this
 |o::r,i,h,j+1,o',h'=>by
  unfold backB at h;rw[qbs] at h;intro e he;have:=zqw h.2 h' e he;omega
theorem zsk {listed:Array Bool}(hb:backB l 0=true)(hr:Region.ready .any l.toArray listed=[])(hs:listed.size=l.length):∀k,k<l.length->listed.getD k false=true:=by
 intro k
 induction k using Nat.strongRecOn with
 |_ k ih=>
  intro hk;cases hl:listed.getD k false with
  |true=>rfl
  |false=>
   exfalso;have hm:k ∈ Region.ready .any l.toArray listed:=by
    refine mem_ready.2 ⟨?_,l[k],by simp[hk],fun e he _=>?_⟩
    ·rw[Array.getD_eq_getD_getElem?,Array.getElem?_eq_getElem U] at hl ⊢;exact hl
    ·have:=zqw hb (qae hk) e he
     exact ih e.on U U
   rw[hr] at hm;cases hm
theorem zao {P:Program}{a:Act}{R:Act->World->Prop}{Q:Exit->Act->World->Prop}{X:Prop}(hg:o.guard=none)(h:o.wp P a w R Q) :
  if Region.wanted o (yielded l.toArray a.tmps)=true then o.wp P a w R Q else X:=by
 rw[if_pos (by simp[Region.wanted,hg])];exact h
def zmx (l:List Oper)(j i:Nat):Bool:=match l[j]? with
 |some o=>o.after.any fun e=>e.on == i&&Region.binds .any e
 |none=>false
def z2d (P:Program)(l:List Oper)(keep:List Tmp)(a0:Act)(T:Nat->Value->World->Prop)(R:World->World->Prop)(S:(Nat->Bool)->World->Prop)(Q:Exit->Act->World->Prop)(i:Nat)(o:Oper):Prop:=
 ∀(L:Nat->Bool) (a:Act) (w:World),L i=false->(∀j,zmx l j i=true->L j=false)->S L w->(∀t,t ∈ keep->a.eval (.tmp t)=a0.eval (.tmp t))->(∀k d,depB l o k d=true->T k (a.eval (.tmp d)) w) ->
  if Region.wanted o (yielded l.toArray a.tmps) then o.wp P a w (fun a' w'=>∃v,a'=a.put o.dst v/\T i v w'/\R w w'/\S (fun k=>if k=i then true else L k) w') Q else T i undef w/\R w w/\S (fun k=>if k=i then true else L k) w
def StepsOn (P:Program)(l:List Oper)(keep:List Tmp)(a0:Act)(T:Nat->Value->World->Prop)(R:World->World->Prop)(S:(Nat->Bool)->World->Prop)(Q:Exit->Act->World->Prop):Nat->List Oper->Prop
 |_,[]=>True
 |i,o::r=>z2d P l keep a0 T R S Q i o/\StepsOn P l keep a0 T R S Q (i+1) r
theorem StepsOn.at {P:Program}{keep:List Tmp}{a0:Act}{T:Nat->Value->World->Prop}{R:World->World->Prop}{S:(Nat->Bool)->World->Prop}{Q:Exit->Act->World->Prop} :
  ∀ {r:List Oper} {i:Nat},StepsOn P l keep a0 T R S Q i r->∀ {j:Nat} {o:Oper},r[j]?=some o->z2d P l keep a0 T R S Q (i+j) o
 | [],_,_,_,_,h=>by cases h
 |o::r,i,h,0,o',h'=>by cases h';exact h.1
 |o::r,i,h,j+1,o',h'=>by rw[show i+(j+1)=i+1+j from by omega];exact h.2.at h'
theorem ze0 {P:Program}{id:Nat}{a0:Act}{w0:World}{Q:Exit->Act->World->Prop}(hm:P.follows .mixedOrders=true)(keep:List Tmp)(T:Nat->Value->World->Prop)(R:World->World->Prop)(S:(Nat->Bool)->World->Prop)
  (hap:ziu l=true) (hkeep:(keep.all fun t=>l.all fun o=>o.dst != some t)=true) (hsz:(l.all fun o=>match o.dst with|some d=>decide (d<a0.tmps.size)|none=>true)=true)
  (hback:backB l 0=true)
  (hmono:∀k v w w',R w w'->T k v w->T k v w') (hS:S (fun _=>false) w0.drew)
  (hsteps:StepsOn P l keep a0 T R S Q 0 l)
  (hdone:∀(vals:Nat->Value) (w:World),(∀k,k<l.length->T k (vals k) w)->(∃L:Nat->Bool,(∀k,k<l.length->L k=true)/\S L w)->Q .normal (fill l 0 (fun _=>true) vals a0) w) :
  (Code.region id l.toArray true).wp P Q a0 w0:=by
 refine wp_region_any hm ?_;refine zmw (fun listed a w=>listed.size=l.length/\∃vals:Nat->Value,a=fill l 0 (fun k=>listed.getD k false) vals a0/\(∀k,listed.getD k false=true->T k (vals k) w)/\S (fun k=>listed.getD k false) w/\∀j i,zmx l j i=true->listed.getD j false=true->listed.getD i false=true) ?_ ?_ _ _ _ _ ?_ jc ?_
 ·rintro listed a w i o ho hi ⟨hls,vals,rfl,hT,hSw,hcl⟩
  obtain⟨h1,o',ho',hdeps⟩:=mem_ready.1 hi;rw[ho] at ho';cases ho';have ho2:l[i]?=some o:=by simpa using ho
  have hil:i<l.length:=(qag.1 ho2).1;have h1':listed.getD i false=false:=by
   rw[Array.getD_eq_getD_getElem?,Array.getElem?_eq_getElem U] at h1 ⊢;exact h1
  have hst:=hsteps.at ho2 (fun k=>listed.getD k false) (fill l 0 (fun k=>listed.getD k false) vals a0) w (by rw[qbc];exact h1')
   (fun j hj=>by
    rw[qbc] at hj;cases hlj:listed.getD j false with
    |false=>rfl
    |true=>rw[hcl j i hj hlj] at h1';cases h1')
   hSw
   (fun t ht=>zdq l 0 _ vals a0 t fun o'' ho'' he=>by
    have:=qci.1 (qci.1 hkeep t ht) o'' ho'';rw[he] at this;simp at this)
   (fun k d hd=>by
    unfold depB at hd;rw[qbs] at hd;obtain⟨e,he,hek⟩:=Array.any_eq_true'.1 hd.1;rw[qbs,beq_iff_eq] at hek;have hlk:=hdeps e he hek.2;rw[hek.1] at hlk;have hd2:(l[k]?).bind (·.dst)=some d:=by simpa using hd.2
    obtain⟨ok,hok,hdk⟩:=Option.bind_eq_some_iff.1 hd2;have hds:d<a0.tmps.size:=by
     have:=qci.1 hsz ok (List.mem_of_getElem? hok);rw[hdk] at this;simpa using this
    rw[zmv l 0 k ok d _ vals a0 hap hok hdk (by rw[qbc];exact hlk) hds,qbc];exact hT k hlk)
  rw[qbc] at hst;have hL:(fun k=>if k=i then true else listed.getD k false)=fun k=>(listed.setIfInBounds i true).getD k false:=by
   funext k;by_cases hk:k=i
   ·subst hk
    rw[if_pos rfl,Array.getD_eq_getD_getElem?,Array.getElem?_setIfInBounds_self_of_lt U];rfl
   ·rw[if_neg hk,getD_set_ne false U]
  have hcl':∀j k,zmx l j k=true->(listed.setIfInBounds i true).getD j false=true->(listed.setIfInBounds i true).getD k false=true:=by
   intro j k hjk hj;by_cases hji:j=i
   ·subst hji
    unfold zmx at hjk;rw[ho2] at hjk;obtain⟨e,he,hek⟩:=Array.any_eq_true'.1 hjk;rw[qbs,beq_iff_eq] at hek;have:=hdeps e he hek.2;rw[hek.1] at this;exact getD_set_true this
   ·rw[getD_set_ne false U] at hj
    exact getD_set_true (hcl j k hjk hj)
  have next:∀(v:Value) (w':World),T i v w'->R w w'->S (fun k=>if k=i then true else listed.getD k false) w'->(listed.setIfInBounds i true).size=l.length/\∃vals':Nat->Value,(fill l 0 (fun k=>listed.getD k false) vals a0).put o.dst v=fill l 0 (fun k=>(listed.setIfInBounds i true).getD k false) vals' a0/\(∀k,(listed.setIfInBounds i true).getD k false=true->T k (vals' k) w')/\S (fun k=>(listed.setIfInBounds i true).getD k false) w'/\∀j k,zmx l j k=true->(listed.setIfInBounds i true).getD j false=true->(listed.setIfInBounds i true).getD k false=true:=by
   intro v w' hTv hb hS';rw[hL] at hS';refine⟨by simpa using hls,fun k=>if k=0+i then v else vals k,?_,?_,hS',hcl'⟩
   ·rw[zqv l 0 i o _ vals a0 v hap ho2 (by rw[qbc];exact h1')]
    refine zg5 _ _ _ _ _ _ _ fun k _=>⟨?_,rfl⟩
    by_cases hk:k=i
    ·subst hk
     rw[if_pos U,Array.getD_eq_getD_getElem?,Array.getElem?_setIfInBounds_self_of_lt U];rfl
    ·rw[if_neg U,getD_set_ne false U]
   ·intro k hk
    by_cases hki:k=i
    ·subst hki;simp only[qbc,if_true];exact hTv
    ·simp only[qbc,hki,if_false]
     rw[getD_set_ne false U] at hk;exact hmono k _ w w' hb (hT k hk)
  unfold wpOp;simp only[ho];split
  ·rename_i hw
   rw[if_pos hw] at hst;refine .inl (Oper.wp_mono ?_ hst);rintro a' w' ⟨v,rfl,hTv,hb,hS'⟩;exact next v w' hTv hb hS'
  ·rename_i hw
   rw[if_neg hw] at hst;exact next undef w hst.1 hst.2.1 hst.2.2
 ·rintro listed a w hr ⟨hls,vals,rfl,hT,hSw,hcl⟩
  have hall:=zsk hback hr hls;have e:fill l 0 (fun k=>listed.getD k false) vals a0=fill l 0 (fun _=>true) vals a0:=by
   have go:∀(r:List Oper) (i:Nat) (a:Act),i+r.length=l.length->fill r i (fun k=>listed.getD k false) vals a=fill r i (fun _=>true) vals a:=by
    intro r
    induction r with
    |nil=>intro i a _;rfl
    |cons o r ih=>
     intro i a h;simp only[qah] at h;have hi:=hall i U;unfold fill;simp only[hi];exact ih (i+1) _ U
   exact go l 0 a0 U
  rw[e];exact hdone vals w (fun k hk=>hT k (hall k hk)) ⟨_,hall,hSw⟩
 ·simp[List.filter_eq_self.2]
 ·have hfalse:(fun k=>(Array.replicate l.toArray.size false).getD k false)=fun _=>false:=by
   funext k;rw[Array.getD_eq_getD_getElem?,Array.getElem?_replicate];split<;>rfl
  refine⟨jc,fun _=>undef,?_,fun k hk=>?_,by rw[hfalse];exact hS,fun j i _ hj=>?_⟩
  ·have go:∀(r:List Oper) (i:Nat) (a:Act),fill r i (fun k=>(Array.replicate l.toArray.size false).getD k false) (fun _=>undef) a=a:=by
    intro r
    induction r with
    |nil=>intro i a;rfl
    |cons o r ih=>
     intro i a;unfold fill;have hf:(Array.replicate l.toArray.size false).getD i false=false:=by
      rw[Array.getD_eq_getD_getElem?,Array.getElem?_replicate];split<;>rfl
     simp only[hf,Bool.false_eq_true,if_false];exact ih (i+1) a
   exact(go l 0 a0).symm
  ·have hf:(Array.replicate l.toArray.size false).getD k false=false:=by
    rw[Array.getD_eq_getD_getElem?,Array.getElem?_replicate];split<;>rfl
   rw[hf] at hk;cases hk
  ·have hf:(Array.replicate l.toArray.size false).getD j false=false:=by
    rw[Array.getD_eq_getD_getElem?,Array.getElem?_replicate];split<;>rfl
   rw[hf] at hj;cases hj
theorem zba {P:Program}{a:Act}{T:Nat->Value->World->Prop}{i:Nat}{R:World->World->Prop}{S:World->Prop}{Q:Exit->Act->World->Prop}(v:Value)(hv:(execOp a.eval o).run P w=.ok (.value v) w)(hT:T i v w)(hR:R w w)(hS:S w) :
  o.wp P a w (fun a' w'=>∃v,a'=a.put o.dst v/\T i v w'/\R w w'/\S w') Q:=by
 unfold Oper.wp;rw[hv];exact⟨v,rfl,hT,hR,hS⟩
theorem zoz {P:Program}{a:Act}{w':World}{T:Nat->Value->World->Prop}{i:Nat}{R:World->World->Prop}{S:World->Prop}{Q:Exit->Act->World->Prop}(hv:(execOp a.eval o).run P w=.ok .skip w')(hT:T i undef w')(hR:R w w')(hS:S w') :
  o.wp P a w (fun a' w'=>∃v,a'=a.put o.dst v/\T i v w'/\R w w'/\S w') Q:=by
 unfold Oper.wp;rw[hv];exact⟨undef,rfl,hT,hR,hS⟩
end Go.Proofs.YtmopdlbpkiaoeaaGreatDoor
namespace Go.Proofs.YtmopdlbpkiaoeaaGreatDoor
open Bool renaming and_eq_true->qbs
open Int renaming le_refl->qe9
open List renaming all_eq_true->qci, drop_eq_getElem_cons->qbr, drop_eq_nil_of_le->qay, foldl_cons->qc5, getElem?_eq_getElem->qae, getElem?_eq_some_iff->qag, length_cons->qah, length_drop->qa2, mem_cons->qbk, mem_cons_of_mem->qa9, mem_cons_self->qap, take_of_length_le->qa4
open Nat renaming le_refl->qac, zero_add->qbc, zero_le->qaj
open Option renaming map_eq_some_iff->qa1
open Option.some renaming inj->qar
open Prod.mk renaming inj->qcs
variable {a i:Int}{ks st st':List Int}{r:List Nat}{l:List Oper}{c k m n p q:Nat}{o:Oper}{w:World}
structure PI where
 op:Int
 kids:Int
 rule:Int
 s0:Int
 s1:Int
 s2:Int
 s3:Int
structure PQ where
 name:ByteArray
 items:List PI
theorem PI.eq_iff (n m:PI):(n.op=m.op/\n.kids=m.kids/\n.rule=m.rule/\n.s0=m.s0/\n.s1=m.s1/\n.s2=m.s2/\n.s3=m.s3)↔n=m:=by
 cases n;cases m;simp
instance:DecidableEq PI:=fun n m=>decidable_of_iff _ (PI.eq_iff n m)
theorem PQ.eq_iff (n m:PQ):(n.name=m.name/\n.items=m.items)↔n=m:=by
 cases n;cases m;simp
instance:DecidableEq PQ:=fun n m=>decidable_of_iff _ (PQ.eq_iff n m)
def Spc (p:List Nat):Prop:=∀x,skipL (p++x)=(p.length+(skipL x).1,(skipL x).2)
theorem zul:Spc []:=fun x=>jc
theorem zy5 {c:Nat}{p:List Nat}(h:c=32∨c=9∨c=10∨c=13)(hp:Spc p):Spc (c::p):=fun x=>by
 rw[List.cons_append,zbf h,hp x,qah];congr 1;show p.length+(skipL x).1+1=_;omega
