/- Characters of grammar files as plain functions on lists of bytes: what a backslash and what follows it stand for. No walk, no program. Quoted strings as plain f -/
import Derived.Orders
import Derived.Below
import Derived.RowKit
namespace Go.Proofs.YthhppmehhdlmnaaGreatDoor
def bts (s:ByteArray):List Nat:=s.data.toList.map UInt8.toNat
theorem zag (s:ByteArray):(bts s).length=s.size:=by unfold bts;rw[List.length_map];exact Array.length_toList
theorem zua (s:ByteArray):∀x,x ∈ bts s->x<256:=by
 intro x hx;unfold bts at hx;obtain⟨u,-,rfl⟩:=List.mem_map.1 hx;exact u.toNat_lt
theorem z7r (s:ByteArray)(k:Nat)(h:k<s.size):(bts s)[k]?=some (s[k].toNat):=by
 unfold bts;rw[List.getElem?_map,List.getElem?_eq_getElem (by rw[Array.length_toList];exact h)];rfl
theorem zbd (s:ByteArray)(k:Nat)(h:k<s.size):(bts s).drop k=s[k].toNat::(bts s).drop (k+1):=by
 rw[List.drop_eq_getElem_cons (by rw[zag];exact h)];congr 1;have:=z7r s k h;rw[List.getElem?_eq_getElem (by rw[zag];exact h)] at this;exact Option.some.inj this
theorem zp9 (s:ByteArray)(h:0<s.size):bts s=s[0].toNat::(bts s).drop 1:=zbd s 0 h
theorem zdt (s:ByteArray)(i j:Nat):bts (s.extract i j)=((bts s).drop i).take (j-i):=by
 unfold bts;rw[ByteArray.data_extract,Array.toList_extract,List.extract_eq_take_drop,List.map_take,List.map_drop]
theorem z4d {a b:ByteArray}(h:bts a=bts b):a=b:=by
 unfold bts at h;have h2:a.data.toList=b.data.toList:=by
  have:=congrArg (List.map UInt8.ofNat) h;simpa [List.map_map,Function.comp_def] using this
 cases a;cases b;congr 1;exact Array.toList_inj.1 h2
def strOf (l:List Nat):ByteArray:=⟨(l.map UInt8.ofNat).toArray⟩
theorem zhp (l:List Nat)(h:∀x,x ∈ l->x<256):bts (strOf l)=l:=by
 unfold bts strOf;simp only[List.map_map]
 conv=>rhs;rw[<-List.map_id l]
 refine List.map_congr_left fun x hx=>?_
 have:=h x hx;simp;omega
theorem zub (s:ByteArray):strOf (bts s)=s:=z4d (zhp _ (zua s))
theorem zb1 (a:List Nat):(strOf a).size=a.length:=by unfold strOf;show((a.map UInt8.ofNat).toArray).size=a.length;simp
def oct (d:Nat):Bool:=decide (48<=d/\d<=55)
def numF:Nat->Nat->List Nat->Nat × Nat
 |c,n,[]=>(c,n)
 |c,n,d::r=>if oct d then numF (c*8+d-48) (n+1) r else (c,n)
def esc:List Nat->Nat × Nat
 | []=>(0,0)
 |d::r=>
  if d=110 then (10,1) else if d=114 then (13,1) else if d=116 then (9,1)
  else if d=39∨d=34∨d=91∨d=93∨d=92 then (d,1)
  else if d=48∨d=49∨d=50 then numF 0 0 ((d::r).take 3)
  else if d=51∨d=52∨d=53∨d=54∨d=55 then numF 0 0 ((d::r).take 2) else (0,0)
theorem zcc (d:Nat)(r:List Nat):esc (d::r) =
  if d=110 then (10,1) else if d=114 then (13,1) else if d=116 then (9,1)
  else if d=39∨d=34∨d=91∨d=93∨d=92 then (d,1)
  else if d=48∨d=49∨d=50 then numF 0 0 ((d::r).take 3)
  else if d=51∨d=52∨d=53∨d=54∨d=55 then numF 0 0 ((d::r).take 2) else (0,0):=rfl
def rdl:List Nat->Option (Nat × Nat)
 | []=>none
 |d::r=>if d=92 then (if (esc r).2=0 then none else some ((esc r).1,1+(esc r).2)) else some (d,1)
theorem zn9 (r:List Nat):rdl (92::r)=if (esc r).2=0 then none else some ((esc r).1,1+(esc r).2):=rfl
theorem zhq (d:Nat)(r:List Nat)(h:d≠92):rdl (d::r)=some (d,1):=by unfold rdl;simp only[if_neg h]
def rd (l:List Nat)(p:Int):Option (Nat × Nat):=if p<0 then none else rdl (l.drop p.toNat)
theorem z3e (l:List Nat)(p:Int)(h:p<0):rd l p=none:=by unfold rd;rw[if_pos h]
theorem ze5 (l:List Nat)(p:Nat):rd l (p:Int)=rdl (l.drop p):=by unfold rd;rw[if_neg (by omega)];rfl
theorem z4e (l:List Nat)(p:Nat)(h:l.length<=p):rd l (p:Int)=none:=by rw[ze5,List.drop_eq_nil_of_le h];rfl
def dg (l:List Nat)(m mx:Nat):Bool:=decide (m<=l.length)&&(decide (48<=l.headD 0/\l.headD 0<=mx)&&(l.take m).all oct)
theorem zzh (a:Nat)(ha:oct a=true):numF 0 0 [a]=(a-48,1):=by
 show(if oct a then numF (0*8+a-48) (0+1) [] else (0,0))=_;rw[if_pos ha];show(0*8+a-48,0+1)=_;congr 1;omega
theorem zhr (a:Nat)(r:List Nat)(ha:oct a=false)(c n:Nat):numF c n (a::r)=(c,n):=by
 show(if oct a then _ else (c,n))=_;rw[if_neg (by rw[ha];decide)]
theorem zc1 (a:Nat)(r:List Nat)(ha:oct a=true)(c n:Nat):numF c n (a::r)=numF (c*8+a-48) (n+1) r:=by
 show(if oct a then _ else (c,n))=_;rw[if_pos ha]
theorem zfd:∀(l:List Nat) (c n:Nat),n<=(numF c n l).2/\(numF c n l).2<=n+l.length
 | [],c,n=>⟨Nat.le_refl _,Nat.le_refl _⟩
 |d::r,c,n=>by
  unfold numF;split
  ·have:=zfd r (c*8+d-48) (n+1)
   rw[List.length_cons];omega
  ·rw[List.length_cons];exact⟨Nat.le_refl _,by omega⟩
theorem zuc (l:List Nat):(esc l).2<=l.length:=by
 cases l with
 |nil=>exact Nat.le_refl _
 |cons d r=>
  rw[zcc];have h3:=(zfd ((d::r).take 3) 0 0).2;have h2:=(zfd ((d::r).take 2) 0 0).2;generalize numF 0 0 ((d::r).take 3)=x at h3;generalize numF 0 0 ((d::r).take 2)=y at h2;rw[List.length_take,List.length_cons] at h3 h2;rw[List.length_cons]
  repeat' split
  all_goals omega
theorem zfe (l:List Nat)(c n:Nat)(h:rdl l=some (c,n)):1<=n/\n<=l.length:=by
 cases l with
 |nil=>cases h
 |cons d r=>
  rw[List.length_cons];by_cases hd:d=92
  ·subst hd
   rw[zn9] at h;have:=zuc r;by_cases h0:(esc r).2=0
   ·rw[if_pos h0] at h;cases h
   ·rw[if_neg h0] at h
    obtain⟨-,rfl⟩:=Prod.mk.inj (Option.some.inj h);omega
  ·rw[zhq d r hd] at h
   obtain⟨-,rfl⟩:=Prod.mk.inj (Option.some.inj h);omega
theorem zff (d:Nat):oct d=true↔(48<=d/\d<=55):=by unfold oct;simp
theorem z3f (d:Nat):oct d=false↔¬(48<=d/\d<=55):=by unfold oct;simp
theorem z7s (c:Nat)(r:List Nat)(h1:c≠110)(h2:c≠114)(h3:c≠116)(h4:¬(c=39∨c=34∨c=91∨c=93∨c=92)) :
  esc (c::r)=if dg (c::r) 3 50=true then (64*(c-48)+8*(r.getD 0 0-48)+(r.getD 1 0-48),3)
   else if dg (c::r) 2 55=true then (8*(c-48)+(r.getD 0 0-48),2)
   else if dg (c::r) 1 55=true then (c-48,1) else (0,0):=by
 rw[zcc,if_neg h1,if_neg h2,if_neg h3,if_neg h4];by_cases hc:oct c=true
 ·have hc':=(zff c).1 hc
  match r with
  | []=>
   have e3:dg [c] 3 50=false:=by unfold dg;simp
   have e2:dg [c] 2 55=false:=by unfold dg;simp
   have e1:dg [c] 1 55=true:=by unfold dg;simp[hc,hc']
   rw[e3,e2,e1];have t3:[c].take 3=[c]:=rfl;have t2:[c].take 2=[c]:=rfl;rw[t3,t2,zzh c hc];split
   ·rfl
   ·rw[if_pos (by omega)];rfl
  | [a]=>
   have e3:dg [c,a] 3 50=false:=by unfold dg;simp
   have e1:dg [c,a] 1 55=true:=by unfold dg;simp[hc,hc']
   have t3:[c,a].take 3=[c,a]:=rfl;have t2:[c,a].take 2=[c,a]:=rfl;rw[e3,e1,t3,t2,zc1 c [a] hc];cases ha:oct a
   ·have e2:dg [c,a] 2 55=false:=by unfold dg;simp[ha]
    rw[zhr a [] ha,e2];split
    ·simp
    ·rw[if_pos (by omega)];simp
   ·have e2:dg [c,a] 2 55=true:=by unfold dg;simp[ha,hc,hc']
    have ha':=(zff a).1 ha;rw[zc1 a [] ha,e2];have:numF ((0*8+c-48)*8+a-48) (0+1+1) []=(8*(c-48)+(a-48),2):=by unfold numF;congr 1;omega
    rw[this];split
    ·simp
    ·rw[if_pos (by omega)];simp
  |a::b::r'=>
   have e1:dg (c::a::b::r') 1 55=true:=by unfold dg;simp[hc,hc']
   have t3:(c::a::b::r').take 3=[c,a,b]:=rfl;have t2:(c::a::b::r').take 2=[c,a]:=rfl;rw[e1,t3,t2,zc1 c [a,b] hc,zc1 c [a] hc];cases ha:oct a
   ·have e3:dg (c::a::b::r') 3 50=false:=by unfold dg;simp[ha]
    have e2:dg (c::a::b::r') 2 55=false:=by unfold dg;simp[ha]
    rw[zhr a _ ha,zhr a _ ha,e3,e2];split
    ·simp
    ·rw[if_pos (by omega)];simp
   ·have e2:dg (c::a::b::r') 2 55=true:=by unfold dg;simp[ha,hc,hc']
    have ha':=(zff a).1 ha;rw[zc1 a _ ha,zc1 a _ ha,e2];have t:numF ((0*8+c-48)*8+a-48) (0+1+1) []=(8*(c-48)+(a-48),2):=by unfold numF;congr 1;omega
    rw[t];cases hb:oct b
    ·have e3:dg (c::a::b::r') 3 50=false:=by unfold dg;simp[hb]
     rw[zhr b _ hb,e3];have:((0*8+c-48)*8+a-48,0+1+1)=(8*(c-48)+(a-48),2):=by congr 1;omega
     rw[this];split
     ·simp
     ·rw[if_pos (by omega)];simp
    ·have hb':=(zff b).1 hb
     rw[zc1 b _ hb];have t:numF (((0*8+c-48)*8+a-48)*8+b-48) (0+1+1+1) []=(64*(c-48)+8*(a-48)+(b-48),3):=by unfold numF;congr 1;omega
     rw[t];by_cases h50:c<=50
     ·have e3:dg (c::a::b::r') 3 50=true:=by unfold dg;simp[hb,ha,hc];omega
      rw[e3,if_pos (by omega)];simp
     ·have e3:dg (c::a::b::r') 3 50=false:=by unfold dg;simp;omega
      rw[e3,if_neg (by omega),if_pos (by omega)];simp
 ·have hc':oct c=false:=by simpa using hc
  have hn:=(z3f c).1 hc';have e3:dg (c::r) 3 50=false:=by unfold dg;simp;omega
  have e2:dg (c::r) 2 55=false:=by unfold dg;simp;omega
  have e1:dg (c::r) 1 55=false:=by unfold dg;simp;omega
  rw[e3,e2,e1,if_neg (by omega),if_neg (by omega)];simp
theorem z7t (l:List Nat)(hl:∀x,x ∈ l->x<256):(esc l).1<256:=by
 cases l with
 |nil=>decide
 |cons c r=>
  have hc:=hl c (List.mem_cons_self ..);by_cases h1:c=110
  ·subst h1;rw[zcc];simp
  by_cases h2:c=114
  ·subst h2;rw[zcc];simp
  by_cases h3:c=116
  ·subst h3;rw[zcc];simp
  by_cases h4:c=39∨c=34∨c=91∨c=93∨c=92
  ·rw[zcc,if_neg h1,if_neg h2,if_neg h3,if_pos h4];exact hc
  rw[z7s c r h1 h2 h3 h4];split
  ·rename_i h
   unfold dg at h;simp only[Bool.and_eq_true,decide_eq_true_eq,List.headD_cons] at h;obtain⟨h5,h6,h7⟩:=h;replace h6:48<=c/\c<=50:=of_decide_eq_true h6;rw[List.length_cons] at h5
   match r,h5,h7 with
   |a::b::r',_,h7=>
    have e:(c::a::b::r').take 3=[c,a,b]:=rfl;rw[e] at h7;simp only[List.all_cons,List.all_nil,Bool.and_eq_true,zff] at h7;simp;omega
  ·split
   ·rename_i h
    unfold dg at h;simp only[Bool.and_eq_true,decide_eq_true_eq,List.headD_cons] at h;obtain⟨h5,h6,h7⟩:=h;rw[List.length_cons] at h5
    match r,h5,h7 with
    |a::r',_,h7=>
     have e:(c::a::r').take 2=[c,a]:=rfl;rw[e] at h7;simp only[List.all_cons,List.all_nil,Bool.and_eq_true,zff] at h7;simp;omega
   ·split
    ·simp;omega
    ·simp
theorem z3g (l:List Nat)(hl:∀x,x ∈ l->x<256)(c n:Nat)(h:rdl l=some (c,n)):c<256:=by
 cases l with
 |nil=>cases h
 |cons d r=>
  by_cases hd:d=92
  ·subst hd
   rw[zn9] at h;have:=z7t r (fun x hx=>hl x (List.mem_cons_of_mem _ hx));by_cases h0:(esc r).2=0
   ·rw[if_pos h0] at h;cases h
   ·rw[if_neg h0] at h
    obtain⟨rfl,-⟩:=Prod.mk.inj (Option.some.inj h);exact this
  ·rw[zhq d r hd] at h
   obtain⟨rfl,-⟩:=Prod.mk.inj (Option.some.inj h);exact hl _ (List.mem_cons_self ..)
theorem zfg {s:ByteArray}{p:Int}{c n:Nat}(h:rd (bts s) p=some (c,n)):0<=p/\p+n<=s.size/\1<=n/\c<256:=by
 by_cases hn:p<0
 ·rw[z3e _ _ hn] at h;cases h
 ·obtain⟨k,rfl⟩:∃k:Nat,p=k:=⟨p.toNat,by omega⟩
  rw[ze5] at h;have h1:=zfe _ _ _ h;have h2:=z3g _ (fun x hx=>zua s x (List.mem_of_mem_drop hx)) _ _ h;rw[List.length_drop,zag] at h1;omega
theorem zoa {d:Nat}{r:List Nat}{c n:Nat}(h:rdl (d::r)=some (c,n)):((d::r).drop n).length<(d::r).length:=by
 have:=zfe _ _ _ h;rw[List.length_drop];omega
def letB (c:Nat)(first:Bool):Bool:=if 48<=c/\c<=57 then !first else decide (c=95∨(97<=c/\c<=122)∨(65<=c/\c<=90))
def allF:Bool->List Nat->Bool
 |_,[]=>true
 |f,c::r=>if letB c f then allF false r else false
theorem zqa {f:Bool}{c:Nat}{r:List Nat}(h:letB c f=true):allF f (c::r)=allF false r:=by
 show(if letB c f then allF false r else false)=_;rw[if_pos h]
theorem zud {f:Bool}{c:Nat}{r:List Nat}(h:letB c f=false):allF f (c::r)=false:=by
 show(if letB c f then allF false r else false)=_;rw[h];rfl
def nameB (l:List Nat):Bool:=!l.isEmpty&&allF true l
def comL:List Nat->Option Nat
 | []=>none
 |c::r=>if c=10∨c=13 then some 0 else (comL r).map (· + 1)
theorem zkn {c:Nat}{r:List Nat}(h:c=10∨c=13):comL (c::r)=some 0:=by
 show(if c=10∨c=13 then some 0 else (comL r).map (· + 1))=_;rw[if_pos h]
theorem zd8 {c:Nat}{r:List Nat}(h:¬(c=10∨c=13)):comL (c::r)=(comL r).map (· + 1):=by
 show(if c=10∨c=13 then some 0 else (comL r).map (· + 1))=_;rw[if_neg h]
theorem zko:∀(l:List Nat) (m:Nat),comL l=some m->m<l.length
 | [],m,h=>by cases h
 |c::r,m,h=>by
  rw[List.length_cons];by_cases hc:c=10∨c=13
  ·rw[zkn hc] at h;cases h;omega
  ·rw[zd8 hc] at h
   obtain⟨k,hk,rfl⟩:=Option.map_eq_some_iff.1 h;have:=zko r k hk;omega
def skipL (l:List Nat):Nat × Bool:=
 match l with
 | []=>(0,true)
 |c::r=>
  if c=32∨c=9∨c=10∨c=13 then ((skipL r).1+1,(skipL r).2)
  else if c≠35 then (0,true)
  else match _h:comL r with
   |none=>(0,false)
   |some m=>((skipL (r.drop m)).1+(m+1),(skipL (r.drop m)).2)
termination_by l.length
decreasing_by
 ·exact Nat.lt_succ_self _
 ·rw[List.length_cons,List.length_drop];omega
theorem zd9:skipL []=(0,true):=by rw[skipL]
theorem zal {c:Nat}{r:List Nat}(h:c=32∨c=9∨c=10∨c=13):skipL (c::r)=((skipL r).1+1,(skipL r).2):=by
 conv=>lhs;rw[skipL]
 rw[if_pos h]
theorem zam {c:Nat}{r:List Nat}(h:¬(c=32∨c=9∨c=10∨c=13))(h2:c≠35):skipL (c::r)=(0,true):=by
 rw[skipL,if_neg h,if_pos h2]
theorem zhs {r:List Nat}(h:comL r=none):skipL (35::r)=(0,false):=by
 rw[skipL,if_neg (by decide),if_neg (by decide)];split
 ·rfl
 ·rename_i h';rw[h] at h';cases h'
theorem zht {r:List Nat}{m:Nat}(h:comL r=some m):skipL (35::r)=((skipL (r.drop m)).1+(m+1),(skipL (r.drop m)).2):=by
 conv=>lhs;rw[skipL,if_neg (by decide),if_neg (by decide)]
 split
 ·rename_i h';rw[h] at h';cases h'
 ·rename_i m' h'
  rw[h] at h';cases h';rfl
theorem zha:∀(n:Nat) (l:List Nat),l.length<=n->(skipL l).1<=l.length
 |_,[],_=>by rw[zd9];exact Nat.le_refl _
 |0,c::r,h=>absurd h (by rw[List.length_cons];omega)
 |n+1,c::r,h=>by
  rw[List.length_cons] at h ⊢;by_cases h1:c=32∨c=9∨c=10∨c=13
  ·rw[zal h1]
   have:=zha n r (by omega);show(skipL r).1+1<=_;omega
  ·by_cases h2:c=35
   ·subst h2
    cases hc:comL r with
    |none=>rw[zhs hc];exact Nat.zero_le _
    |some m=>
     rw[zht hc];have h3:=zko _ _ hc;have:=zha n (r.drop m) (by rw[List.length_drop];omega);rw[List.length_drop] at this;show(skipL (r.drop m)).1+(m+1)<=_;omega
   ·rw[zam h1 h2];exact Nat.zero_le _
def idL:Bool->List Nat->Nat
 |_,[]=>0
 |first,c::r=>if letB c first then idL false r+1 else 0
theorem zhu {first:Bool}{c:Nat}{r:List Nat}(h:letB c first=true):idL first (c::r)=idL false r+1:=by
 show(if letB c first then idL false r+1 else 0)=_;rw[if_pos h]
theorem zqb {first:Bool}{c:Nat}{r:List Nat}(h:letB c first=false):idL first (c::r)=0:=by
 show(if letB c first then idL false r+1 else 0)=_;rw[h];rfl
theorem zue:∀(l:List Nat) (first:Bool),idL first l<=l.length
 | [],_=>Nat.le_refl _
 |c::r,first=>by
  cases h:letB c first
  ·rw[zqb h];exact Nat.zero_le _
  ·rw[zhu h,List.length_cons]
   have:=zue r false;omega
def clsL (l:List Nat):Option (List (Nat × Nat) × Nat):=
 match l with
 | []=>none
 |c::r=>
  if c=93 then some ([],1) else
  match _h:rdl (c::r) with
  |none=>none
  |some (lo,n)=>
   match (c::r).drop n with
   |45::t=>
    match rdl t with
    |none=>(clsL ((c::r).drop n)).map fun x=>((lo,lo)::x.1,n+x.2)
    |some (hi,m)=>(clsL ((c::r).drop (n+1+m))).map fun x=>((lo,hi)::x.1,n+1+m+x.2)
   |_=>(clsL ((c::r).drop n)).map fun x=>((lo,lo)::x.1,n+x.2)
termination_by l.length
decreasing_by
 all_goals
  have:=zfe _ _ _ _h;rw[List.length_drop];omega
def litE (q:Nat)(l:List Nat):Option (List Nat × Nat):=
 match l with
 | []=>none
 |d::r=>
  if d=q then some ([],1) else
  match _h:rdl (d::r) with
  |none=>none
  |some (c,n)=>(litE q ((d::r).drop n)).map fun x=>(c::x.1,n+x.2)
termination_by l.length
decreasing_by exact zoa _h
def inRs (rs:List (Nat × Nat))(i:Nat):Bool:=rs.any fun r=>decide (r.1<=i/\i<=r.2)
theorem zqc:clsL []=none:=by rw[clsL]
theorem zqd {r:List Nat}:clsL (93::r)=some ([],1):=by rw[clsL,if_pos rfl]
theorem zqe {c:Nat}{r:List Nat}(h:rdl (c::r)=none)(hc:c≠93):clsL (c::r)=none:=by
 rw[clsL,if_neg hc];split
 ·rfl
 ·rename_i h';rw[h] at h';cases h'
theorem zi3 {c lo n hi m:Nat}{r t:List Nat}(h:rdl (c::r)=some (lo,n))(hc:c≠93)(hd:(c::r).drop n=45::t)(ht:rdl t=some (hi,m)) :
  clsL (c::r)=(clsL ((c::r).drop (n+1+m))).map fun x=>((lo,hi)::x.1,n+1+m+x.2):=by
 conv=>lhs;rw[clsL]
 rw[if_neg hc];split
 ·rename_i h';rw[h] at h';cases h'
 ·rename_i lo' n' h'
  rw[h] at h';obtain⟨rfl,rfl⟩:=Prod.mk.inj (Option.some.inj h');split
  ·rename_i t' h2
   rw[hd] at h2;obtain rfl:=(List.cons.inj h2).2;split
   ·rename_i h3;rw[ht] at h3;cases h3
   ·rename_i hi' m' h3
    rw[ht] at h3;obtain⟨rfl,rfl⟩:=Prod.mk.inj (Option.some.inj h3);rfl
  ·rename_i h2
   exact absurd hd (h2 t)
theorem zqf {c lo n:Nat}{r:List Nat}(h:rdl (c::r)=some (lo,n))(hc:c≠93)(hd:∀t,(c::r).drop n=45::t->rdl t=none) :
  clsL (c::r)=(clsL ((c::r).drop n)).map fun x=>((lo,lo)::x.1,n+x.2):=by
 conv=>lhs;rw[clsL]
 rw[if_neg hc];split
 ·rename_i h';rw[h] at h';cases h'
 ·rename_i lo' n' h'
  rw[h] at h';obtain⟨rfl,rfl⟩:=Prod.mk.inj (Option.some.inj h');split
  ·rename_i t' h2
   have h4:=hd t' h2;split
   ·rfl
   ·rename_i hi' m' h3
    rw[h4] at h3;cases h3
  ·rfl
theorem zkp (q:Nat):litE q []=none:=by rw[litE]
theorem zc2 {q:Nat}{r:List Nat}:litE q (q::r)=some ([],1):=by rw[litE,if_pos rfl]
theorem zkq {q d:Nat}{r:List Nat}(h:rdl (d::r)=none)(hd:d≠q):litE q (d::r)=none:=by
 rw[litE,if_neg hd];split
 ·rfl
 ·rename_i h';rw[h] at h';cases h'
theorem zcg {q d c n:Nat}{r:List Nat}(h:rdl (d::r)=some (c,n))(hd:d≠q):litE q (d::r)=(litE q ((d::r).drop n)).map fun x=>(c::x.1,n+x.2):=by
 conv=>lhs;rw[litE]
 rw[if_neg hd];split
 ·rename_i h';rw[h] at h';cases h'
 ·rename_i c' n' h'
  rw[h] at h';obtain⟨rfl,rfl⟩:=Prod.mk.inj (Option.some.inj h');rfl
theorem zzi (o:Option (List Nat × Nat))(acc:List Nat)(a c n:Nat) :
  (o.map fun x=>(c::x.1,n+x.2)).map (fun x=>(acc++x.1,a+x.2))=o.map fun x=>((acc++[c])++x.1,(a+n)+x.2):=by
 cases o with
 |none=>rfl
 |some x=>simp;omega
theorem zzj (o:Option (List (Nat × Nat) × Nat))(acc:List (Nat × Nat))(a n:Nat)(p:Nat × Nat) :
  (o.map fun x=>(p::x.1,n+x.2)).map (fun x=>(acc++x.1,a+x.2))=o.map fun x=>((acc++[p])++x.1,(a+n)+x.2):=by
 cases o with
 |none=>rfl
 |some x=>simp;omega
theorem zuf (rs:List (Nat × Nat))(p:Nat × Nat)(i:Nat):inRs (rs++[p]) i=(inRs rs i || decide (p.1<=i/\i<=p.2)):=by
 unfold inRs;rw[List.any_append];simp
structure Tok where
 kind:Nat
 at_:Nat
 text:List Nat
 rs:List (Nat × Nat)
def idxL (n:Nat):List Nat->Nat->Option Nat
 | [],_=>none
 |x::r,c=>if x=c then some n else idxL (n+1) r c
theorem zkr {n x c:Nat}{r:List Nat}(h:x=c):idxL n (x::r) c=some n:=by
 show(if x=c then some n else idxL (n+1) r c)=_;rw[if_pos h]
theorem zob {n x c:Nat}{r:List Nat}(h:¬x=c):idxL n (x::r) c=idxL (n+1) r c:=by
 show(if x=c then some n else idxL (n+1) r c)=_;rw[if_neg h]
def sigs:List Nat:=[47,38,33,63,42,43,40,41,46]
def signK (c:Nat):Option Nat:=idxL 3 sigs c
def tokL (k:Nat):List Nat->Option (Tok × Nat)
 | []=>some (⟨0,k,[],[]⟩,k)
 |c::r=>
  if letB c true then some (⟨1,k,(c::r).take (idL true (c::r)),[]⟩,k+idL true (c::r))
  else if c=60/\r.head?=some 45 then some (⟨2,k,[],[]⟩,k+2)
  else match signK c with
   |some i=>some (⟨i,k,[],[]⟩,k+1)
   |none=>
    if c=91 then (clsL r).map fun x=>(⟨13,k,[],x.1⟩,k+1+x.2)
    else if c=39∨c=34 then (litE c r).map fun x=>(⟨12,k,x.1,[]⟩,k+1+x.2)
    else none
theorem zer (k:Nat):tokL k []=some (⟨0,k,[],[]⟩,k):=rfl
theorem zdf (k c:Nat)(r:List Nat):tokL k (c::r) =
  if letB c true then some (⟨1,k,(c::r).take (idL true (c::r)),[]⟩,k+idL true (c::r))
  else if c=60/\r.head?=some 45 then some (⟨2,k,[],[]⟩,k+2)
  else match signK c with
   |some i=>some (⟨i,k,[],[]⟩,k+1)
   |none=>
    if c=91 then (clsL r).map fun x=>(⟨13,k,[],x.1⟩,k+1+x.2)
    else if c=39∨c=34 then (litE c r).map fun x=>(⟨12,k,x.1,[]⟩,k+1+x.2)
    else none:=rfl
theorem zck {k c:Nat}{r:List Nat}(h:letB c true=true):tokL k (c::r)=some (⟨1,k,(c::r).take (idL true (c::r)),[]⟩,k+idL true (c::r)):=by
 rw[zdf,if_pos h]
theorem zb2 {k c:Nat}{r:List Nat}(h1:letB c true=false)(h2:c=60/\r.head?=some 45):tokL k (c::r)=some (⟨2,k,[],[]⟩,k+2):=by
 rw[zdf,h1,if_neg (by decide),if_pos h2]
theorem zea {k c i:Nat}{r:List Nat}(h1:letB c true=false)(h2:¬(c=60/\r.head?=some 45))(h3:signK c=some i):tokL k (c::r)=some (⟨i,k,[],[]⟩,k+1):=by
 rw[zdf,h1,if_neg (by decide),if_neg h2,h3]
theorem zks {k:Nat}{r:List Nat}:tokL k (91::r)=(clsL r).map fun x=>(⟨13,k,[],x.1⟩,k+1+x.2):=rfl
theorem zc3 {k c:Nat}{r:List Nat}(h:c=39∨c=34):tokL k (c::r)=(litE c r).map fun x=>(⟨12,k,x.1,[]⟩,k+1+x.2):=by
 rcases h with rfl|rfl<;>rfl
theorem zhb {k c:Nat}{r:List Nat}(h1:letB c true=false)(h2:¬(c=60/\r.head?=some 45))(h3:signK c=none)(h4:c≠91)(h5:¬(c=39∨c=34)):tokL k (c::r)=none:=by
 rw[zdf,h1,if_neg (by decide),if_neg h2,h3];show(if c=91 then _ else if c=39∨c=34 then _ else none)=none;rw[if_neg h4,if_neg h5]
def nextL (l:List Nat)(p:Nat):Except Nat (Tok × Nat):=
 if (skipL (l.drop p)).2 then
  match tokL (p+(skipL (l.drop p)).1) (l.drop (p+(skipL (l.drop p)).1)) with
  |some x=>.ok x
  |none=>.error (p+(skipL (l.drop p)).1)
 else .error (p+(skipL (l.drop p)).1)
theorem zqg (q:Nat):∀(n:Nat) (l:List Nat),l.length<=n->∀b m,litE q l=some (b,m)->1<=m/\m<=l.length
 |_,[],_,b,m,h=>by rw[zkp] at h;cases h
 |0,d::r,hn,_,_,_=>absurd hn (by rw[List.length_cons];omega)
 |n+1,d::r,hn,b,m,h=>by
  rw[List.length_cons] at hn ⊢;by_cases hd:d=q
  ·subst hd
   rw[zc2] at h;cases h;omega
  ·cases hr:rdl (d::r) with
   |none=>rw[zkq hr hd] at h;cases h
   |some x=>
    obtain⟨c,k⟩:=x;have hk:=zfe _ _ _ hr;rw[List.length_cons] at hk;rw[zcg hr hd] at h;obtain⟨⟨b',m'⟩,h',e⟩:=Option.map_eq_some_iff.1 h;have:=zqg q n _ (by rw[List.length_drop,List.length_cons];omega) b' m' h';rw[List.length_drop,List.length_cons] at this;obtain⟨-,rfl⟩:=Prod.mk.inj e;show 1<=k+m'/\k+m'<=_;omega
theorem zkt:∀(n:Nat) (l:List Nat),l.length<=n->∀b m,clsL l=some (b,m)->1<=m/\m<=l.length
 |_,[],_,b,m,h=>by rw[zqc] at h;cases h
 |0,d::r,hn,_,_,_=>absurd hn (by rw[List.length_cons];omega)
 |n+1,d::r,hn,b,m,h=>by
  rw[List.length_cons] at hn ⊢;by_cases hd:d=93
  ·subst hd
   rw[zqd] at h;cases h;omega
  ·cases hr:rdl (d::r) with
   |none=>rw[zqe hr hd] at h;cases h
   |some x=>
    obtain⟨c,k⟩:=x;have hk:=zfe _ _ _ hr;rw[List.length_cons] at hk;by_cases hg:∃t hi j,(d::r).drop k=45::t/\rdl t=some (hi,j)
    ·obtain⟨t,hi,j,h1,h2⟩:=hg
     rw[zi3 hr hd h1 h2] at h;obtain⟨⟨b',m'⟩,h',e⟩:=Option.map_eq_some_iff.1 h;have h3:=zfe _ _ _ h2;have h4:=congrArg List.length h1;rw[List.length_drop,List.length_cons,List.length_cons] at h4;have:=zkt n _ (by rw[List.length_drop,List.length_cons];omega) b' m' h';rw[List.length_drop,List.length_cons] at this;obtain⟨-,rfl⟩:=Prod.mk.inj e;show 1<=k+1+j+m'/\k+1+j+m'<=_;omega
    ·rw[zqf hr hd (fun t ht=>by
      cases h2:rdl t with
      |none=>rfl
      |some y=>exact absurd ⟨t,y.1,y.2,ht,h2⟩ hg)] at h
     obtain⟨⟨b',m'⟩,h',e⟩:=Option.map_eq_some_iff.1 h;have:=zkt n _ (by rw[List.length_drop,List.length_cons];omega) b' m' h';rw[List.length_drop,List.length_cons] at this;obtain⟨-,rfl⟩:=Prod.mk.inj e;show 1<=k+m'/\k+m'<=_;omega
theorem zoc:∀(l:List Nat) (n c i:Nat),idxL n l c=some i->n<=i
 | [],n,c,i,h=>by cases h
 |x::r,n,c,i,h=>by
  by_cases hx:x=c
  ·rw[zkr hx] at h;cases h;omega
  ·rw[zob hx] at h
   have:=zoc r (n+1) c i h;omega
theorem zsn (k:Nat)(l:List Nat)(t:Tok)(n:Nat)(h:tokL k l=some (t,n)):(t.kind=0/\l=[])∨(t.kind≠0/\k<n/\n<=k+l.length):=by
 cases l with
 |nil=>
  rw[zer] at h;cases h;exact Or.inl ⟨rfl,rfl⟩
 |cons c r=>
  right;rw[List.length_cons];cases hl:letB c true
  ·by_cases ha:c=60/\r.head?=some 45
   ·rw[zb2 hl ha] at h
    cases h;have:r≠[]:=fun e=>by rw[e] at ha;cases ha.2
    have:=List.length_pos_iff.2 this;exact⟨by show 2≠0;decide,by omega,by omega⟩
   ·cases hs:signK c with
    |some i=>
     rw[zea hl ha hs] at h;cases h;have:=zoc _ _ _ _ hs;exact⟨by show i≠0;omega,by omega,by omega⟩
    |none=>
     by_cases h91:c=91
     ·subst h91
      rw[zks] at h;obtain⟨⟨b,m⟩,h',e⟩:=Option.map_eq_some_iff.1 h;have:=zkt _ r (Nat.le_refl _) b m h';cases e;exact⟨by show 13≠0;decide,by omega,by omega⟩
     ·by_cases hq:c=39∨c=34
      ·rw[zc3 hq] at h
       obtain⟨⟨b,m⟩,h',e⟩:=Option.map_eq_some_iff.1 h;have:=zqg c _ r (Nat.le_refl _) b m h';cases e;exact⟨by show 12≠0;decide,by omega,by omega⟩
      ·rw[zhb hl ha hs h91 hq] at h;cases h
  ·rw[zck hl] at h
   have h1:=zue (c::r) true;rw[List.length_cons] at h1;have h2:1<=idL true (c::r):=by rw[zhu hl];omega
   cases h;exact⟨by show 1≠0;decide,by omega,by omega⟩
theorem zbz (l:List Nat)(p:Nat)(hp:p<=l.length)(t:Tok)(n:Nat)(h:nextL l p=.ok (t,n)):(t.kind=0/\n=l.length)∨(t.kind≠0/\p<n/\n<=l.length):=by
 unfold nextL at h;have hle:=zha _ (l.drop p) (Nat.le_refl _);rw[List.length_drop] at hle;split at h
 ·generalize (skipL (l.drop p)).1=m at h hle
  cases ht:tokL (p+m) (l.drop (p+m)) with
  |none=>rw[ht] at h;cases h
  |some x=>
   rw[ht] at h;cases h;rcases zsn _ _ _ _ ht with⟨h1,h2⟩|⟨h1,h2,h3⟩
   ·left
    refine⟨h1,?_⟩;rw[h2,zer] at ht;have h4:=List.drop_eq_nil_iff.1 h2;cases ht;omega
   ·right
    rw[List.length_drop] at h3;exact⟨h1,by omega,by omega⟩
 ·cases h
structure PN where
 op:Int
 kids:List Int
 rule:Int
 s0:Int
 s1:Int
 s2:Int
 s3:Int
structure PR where
 name:ByteArray
 root:Int
theorem PN.eq_iff (n m:PN):(n.op=m.op/\n.kids=m.kids/\n.rule=m.rule/\n.s0=m.s0/\n.s1=m.s1/\n.s2=m.s2/\n.s3=m.s3)↔n=m:=by
 cases n;cases m;simp
instance:DecidableEq PN:=fun n m=>decidable_of_iff _ (PN.eq_iff n m)
theorem PR.eq_iff (n m:PR):(n.name=m.name/\n.root=m.root)↔n=m:=by
 cases n;cases m;simp
instance:DecidableEq PR:=fun n m=>decidable_of_iff _ (PR.eq_iff n m)
def zcu (ns:List PN)(i:Nat):List Int:=match ns[i]? with
 |some n=>n.kids
 |none=>[]
theorem zbn {ns:List PN}{i:Nat}{n:PN}(h:ns[i]?=some n):zcu ns i=n.kids:=by unfold zcu;rw[h]
def zas (ex:Int->Int):List Int->Int->Int
 | [],a=>a
 |k::ks,a=>if k=a then (if ex a=-2 then -2 else zas ex ks (ex a)) else -2
theorem zbo {ex:Int->Int}{a:Int}{ks:List Int}(h:ex a ≠ -2):zas ex (a::ks) a=zas ex ks (ex a):=by
 show(if a=a then (if ex a=-2 then -2 else zas ex ks (ex a)) else -2)=_;rw[if_pos rfl,if_neg h]
theorem zb9 {ex:Int->Int}{a:Int}{ks:List Int}(h:ex a=-2):zas ex (a::ks) a=-2:=by
 show(if a=a then (if ex a=-2 then -2 else zas ex ks (ex a)) else -2)=_;rw[if_pos rfl,if_pos h]
theorem zcs {ex:Int->Int}{a k:Int}{ks:List Int}(h:k≠a):zas ex (k::ks) a=-2:=by
 show(if k=a then (if ex a=-2 then -2 else zas ex ks (ex a)) else -2)=_;rw[if_neg h]
theorem zbe {ex:Int->Int}{a k:Int}{ks:List Int}(h:zas ex (k::ks) a ≠ -2):k=a/\ex a ≠ -2/\zas ex (k::ks) a=zas ex ks (ex a):=by
 by_cases hk:k=a
 ·subst hk
  by_cases he:ex k=-2
  ·exact absurd (zb9 he) h
  ·exact⟨rfl,he,zbo he⟩
 ·exact absurd (zcs hk) h
def exF (ns:List PN):Nat->Int->Int
 |0,_=>-2
 |f+1,i=>if i<0 then -2 else zas (exF ns f) (zcu ns i.toNat).reverse (i-1)
theorem zqh (ns:List PN):∀(f:Nat) (i:Int),exF ns f i ≠ -2 -> -1<=exF ns f i/\exF ns f i<i/\0<=i
 |0,i,h=>absurd rfl h
 |f+1,i,h=>by
  have hd:exF ns (f+1) i=if i<0 then -2 else zas (exF ns f) (zcu ns i.toNat).reverse (i-1):=rfl
  by_cases hi:i<0
  ·rw[hd,if_pos hi] at h;exact absurd rfl h
  ·rw[hd,if_neg hi] at h ⊢
   have key:∀(ks:List Int) (a:Int),-1<=a->zas (exF ns f) ks a ≠ -2 -> -1<=zas (exF ns f) ks a/\zas (exF ns f) ks a<=a:=by
    intro ks
    induction ks with
    |nil=>intro a ha _;exact⟨ha,Int.le_refl _⟩
    |cons k ks ih=>
     intro a ha hc;obtain⟨-,he,hs⟩:=zbe hc;rw[hs] at hc ⊢;have h1:=zqh ns f a he;have h2:=ih _ h1.1 hc;omega
   have:=key _ (i-1) (by omega) h;omega
theorem zqi (ns:List PN):∀(f g:Nat) (i:Int),i<f->i<g->exF ns f i=exF ns g i
 |0,0,i,_,_=>rfl
 |0,g+1,i,h,_=>by
  show -2=if i<0 then -2 else _
  rw[if_pos (by omega)]
 |f+1,0,i,_,h=>by
  show(if i<0 then -2 else _)=-2;rw[if_pos (by omega)]
 |f+1,g+1,i,h,h'=>by
  show(if i<0 then -2 else zas (exF ns f) (zcu ns i.toNat).reverse (i-1))=(if i<0 then -2 else zas (exF ns g) (zcu ns i.toNat).reverse (i-1));by_cases hi:i<0
  ·rw[if_pos hi,if_pos hi]
  ·rw[if_neg hi,if_neg hi]
   have key:∀(ks:List Int) (a:Int),a<f->a<g->zas (exF ns f) ks a=zas (exF ns g) ks a:=by
    intro ks
    induction ks with
    |nil=>intro a _ _;rfl
    |cons k ks ih=>
     intro a ha hb;have he:=zqi ns f g a ha hb;by_cases hk:k=a
     ·subst hk
      by_cases h2:exF ns f k=-2
      ·rw[zb9 h2,zb9 (he ▸ h2)]
      ·have h3:exF ns g k ≠ -2:=he ▸ h2
       rw[zbo h2,zbo h3,<-he];have:=zqh ns f k h2;exact ih _ (by omega) (by omega)
     ·rw[zcs hk,zcs hk]
   exact key _ _ (by omega) (by omega)
def exL (ns:List PN)(i:Int):Int:=exF ns (i.toNat+1) i
theorem z4f (ns:List PN)(f:Nat)(i:Int)(h:i<f):exF ns f i=exL ns i:=zqi ns _ _ _ h (by omega)
theorem zug (ns:List PN)(i:Int)(h:i<0):exL ns i=-2:=by
 show(if i<0 then -2 else _)=-2;rw[if_pos h]
theorem zgz {f g:Int->Int}(hf:∀a,f a ≠ -2->f a<a):∀(ks:List Int) (a:Int),(∀b,b<=a->f b=g b)->zas f ks a=zas g ks a
 | [],a,_=>rfl
 |k::ks,a,h=>by
  have he:=h a (Int.le_refl _);by_cases hk:k=a
  ·subst hk
   by_cases h2:f k=-2
   ·rw[zb9 h2,zb9 (he ▸ h2)]
   ·have h3:g k ≠ -2:=he ▸ h2
    rw[zbo h2,zbo h3,<-he];have:=hf k h2;exact zgz hf ks _ (fun b hb=>h b (by omega))
  ·rw[zcs hk,zcs hk]
theorem zd5 (ns:List PN)(i:Int)(h:exL ns i ≠ -2):-1<=exL ns i/\exL ns i<i/\0<=i:=zqh ns _ _ h
theorem zg0 (ns:List PN)(i:Int)(h:0<=i):exL ns i=zas (exL ns) (zcu ns i.toNat).reverse (i-1):=by
 have:exL ns i=zas (exF ns i.toNat) (zcu ns i.toNat).reverse (i-1):=by
  show(if i<0 then -2 else zas (exF ns i.toNat) (zcu ns i.toNat).reverse (i-1))=_;rw[if_neg (by omega)]
 rw[this];exact zgz (fun a ha=>(zqh ns _ a ha).2.1) _ _ (fun b hb=>z4f ns _ _ (by omega))
theorem zhv {ns:List PN}(i:Int)(hI:∀j,j<i->exL ns j ≠ -2->∀x,exL ns j<x->x<=j->exL ns x ≠ -2/\exL ns j<=exL ns x) :
  ∀(ks:List Int) (a:Int),a<i->zas (exL ns) ks a ≠ -2->zas (exL ns) ks a<=a/\∀x,zas (exL ns) ks a<x->x<=a->exL ns x ≠ -2/\zas (exL ns) ks a<=exL ns x:=by
 intro ks
 induction ks with
 |nil=>intro a _ _;exact⟨Int.le_refl _,fun x h1 h2=>absurd (show a<x from h1) (by omega)⟩
 |cons k ks ih=>
  intro a ha hc;obtain⟨-,he,hs⟩:=zbe hc;rw[hs] at hc ⊢;have h1:=zd5 ns a he;obtain⟨h2,h3⟩:=ih _ (by omega) hc;refine⟨by omega,fun x hx hxa=>?_⟩;by_cases hx2:x<=exL ns a
  ·exact h3 x hx hx2
  ·have:=hI a ha he x (by omega) hxa
   exact⟨this.1,by omega⟩
theorem zqj (ns:List PN):∀(n:Nat) (i:Int),i.toNat<n->exL ns i ≠ -2->∀x,exL ns i<x->x<=i->exL ns x ≠ -2/\exL ns i<=exL ns x
 |0,i,hn,_=>absurd hn (Nat.not_lt_zero _)
 |n+1,i,hn,he=>by
  have hi:=zd5 ns i he;intro x hx hxi;by_cases hxe:x=i
  ·subst hxe;exact⟨he,Int.le_refl _⟩
  ·have hq:=zg0 ns i hi.2.2
   rw[hq] at he hx ⊢;exact(zhv i (fun j hj hje=>by
    have:=zd5 ns j hje;exact zqj ns n j (by omega) hje) _ _ (by omega) he).2 x hx (by omega)
theorem zdg {ns:List PN}{i x:Int}(he:exL ns i ≠ -2)(h1:exL ns i<x)(h2:x<=i):exL ns x ≠ -2/\exL ns i<=exL ns x:=zqj ns _ i (Nat.lt_succ_self _) he x h1 h2
def ordR (ns:List PN):List PR->Int->Bool
 | [],b=>b == (ns.length:Int)-1
 |r::t,b=>if r.root<=b∨(ns.length:Int)<=r.root∨exL ns r.root≠b then false else ordR ns t r.root
theorem zdh {ns:List PN}{r:PR}{t:List PR}{b:Int}(h:ordR ns (r::t) b=true):b<r.root/\r.root<ns.length/\exL ns r.root=b/\ordR ns t r.root=true:=by
 by_cases hc:r.root<=b∨(ns.length:Int)<=r.root∨exL ns r.root≠b
 ·have:ordR ns (r::t) b=false:=by
   show(if r.root<=b∨(ns.length:Int)<=r.root∨exL ns r.root≠b then false else ordR ns t r.root)=false;rw[if_pos hc]
  rw[this] at h;cases h
 ·have:ordR ns (r::t) b=ordR ns t r.root:=by
   show(if r.root<=b∨(ns.length:Int)<=r.root∨exL ns r.root≠b then false else ordR ns t r.root)=_;rw[if_neg hc]
  rw[this] at h;exact⟨by omega,by omega,by omega,h⟩
theorem zuh {ns:List PN}{r:PR}{t:List PR}{b:Int}(h1:b<r.root)(h2:r.root<ns.length)(h3:exL ns r.root=b):ordR ns (r::t) b=ordR ns t r.root:=by
 show(if r.root<=b∨(ns.length:Int)<=r.root∨exL ns r.root≠b then false else ordR ns t r.root)=_;rw[if_neg (by omega)]
theorem zcl {ns:List PN}:∀(rs:List PR) (b:Int),-1<=b->ordR ns rs b=true->b<ns.length/\∀x,b<x->x<ns.length->exL ns x ≠ -2/\b<=exL ns x
 | [],b,_,h=>by
  have:b=(ns.length:Int)-1:=by simpa [ordR] using h
  exact⟨by omega,fun x h1 h2=>by omega⟩
 |r::t,b,hb,h=>by
  obtain⟨h1,h2,h3,h4⟩:=zdh h;obtain⟨h5,h6⟩:=zcl t r.root (by omega) h4;refine⟨by omega,fun x hx hn=>?_⟩;by_cases hxr:x<=r.root
  ·have:=zdg (ns:=ns) (i:=r.root) (x:=x) (by omega) (by omega) hxr
   exact⟨this.1,by omega⟩
  ·have:=h6 x (by omega) hn
   exact⟨this.1,by omega⟩
def AllEx (ns:List PN):Prop:=∀x:Int,0<=x->x<ns.length->exL ns x ≠ -2
theorem zod {ns:List PN}{rs:List PR}(h:ordR ns rs (-1)=true):AllEx ns:=fun x h1 h2=>((zcl rs (-1) (by omega) h).2 x (by omega) h2).1
theorem zge {ns:List PN}:∀(ks:List Int) (a:Int),zas (exL ns) ks a ≠ -2->∀k,k ∈ ks->0<=k/\k<=a
 | [],_,_,k,hk=>by cases hk
 |x::ks,a,h,k,hk=>by
  obtain⟨rfl,he,hs⟩:=zbe h;have hl:=zd5 ns x he;rw[hs] at h;rcases List.mem_cons.1 hk with rfl|hk
  ·exact⟨hl.2.2,Int.le_refl _⟩
  ·have:=zge ks _ h k hk
   omega
def zcv (ns:List PN):Prop:=∀(i:Nat) (n:PN),ns[i]?=some n->∀k,k ∈ n.kids->0<=k/\k<(i:Int)
theorem AllEx.kids {ns:List PN}(h:AllEx ns):zcv ns:=fun i n hn k hk=>by
 have hl:=(List.getElem?_eq_some_iff.1 hn).1;have he:=h i (by omega) (by omega);rw[zg0 ns i (by omega)] at he;have hk':k ∈ (zcu ns (i:Int).toNat).reverse:=by
  rw[show(i:Int).toNat=i by omega,zbn hn];exact List.mem_reverse.2 hk
 have:=zge _ _ he k hk';omega
theorem zhw {ns:List PN}:∀(ks:List Int) (a e:Int),zas (exL ns) ks a=e->e ≠ -2->∀(p:Nat) (k:Int),ks.reverse[p]?=some k->exL ns k ≠ -2/\exL ns k=(if p=0 then e else (ks.reverse.getD (p-1) 0))
 | [],a,e,_,_,p,k,h=>by simp at h
 |x::ks,a,e,hc,he,p,k,h=>by
  obtain⟨rfl,hx,hs⟩:=zbe (show zas (exL ns) (x::ks) a ≠ -2 by rw[hc];exact he);rw[hs] at hc;have ih:=zhw ks (exL ns x) e hc he;rw[List.reverse_cons] at h ⊢;rcases Nat.lt_or_ge p ks.reverse.length with hp|hp
  ·rw[List.getElem?_append_left hp] at h
   have:=ih p k h;refine⟨this.1,?_⟩;rw[this.2];by_cases h0:p=0
   ·rw[if_pos h0,if_pos h0]
   ·rw[if_neg h0,if_neg h0]
    simp only[List.getD];rw[List.getElem?_append_left (by omega)]
  ·have hpe:p=ks.reverse.length:=by
    have:=(List.getElem?_eq_some_iff.1 h).1;simp at this hp ⊢;omega
   subst hpe;rw[List.getElem?_append_right (Nat.le_refl _),Nat.sub_self] at h;have hkx:x=k:=by simpa using h
   subst hkx;refine⟨hx,?_⟩;cases ks with
   |nil=>rw[if_pos (by simp)];exact hc
   |cons y ys=>
    rw[if_neg (by simp)];obtain⟨hy,-,-⟩:=zbe (show zas (exL ns) (y::ys) (exL ns x) ≠ -2 by rw[hc];exact he);rw[List.reverse_cons];simp only[List.getD];rw[List.length_append,List.length_singleton,Nat.add_sub_cancel];rw[List.getElem?_append_left (by simp),List.getElem?_append_right (Nat.le_refl _),Nat.sub_self];exact hy.symm
def popL:List Int->List Int->Option (List Int)
 | [],st=>some st
 |_::_,[]=>none
 |k::ks,x::st=>if k=x then popL ks st else none
def stepO (rs:List PR)(n:PN)(i:Int)(st:List Int)(r:Nat):Option (List Int × Nat):=
 match popL n.kids.reverse st with
 |none=>none
 |some st'=>match rs[r]? with
  |none=>some (i::st',r)
  |some x=>if x.root=i then (if st'=[] then some ([],r+1) else none) else some (i::st',r)
def runO (rs:List PR):List PN->Int->List Int->Nat->Bool
 | [],_,st,r=>st.isEmpty&&decide (rs.length<=r)
 |n::ns,i,st,r=>match stepO rs n i st r with
  |none=>false
  |some (st',r')=>runO rs ns (i+1) st' r'
def StackIs (ns:List PN):List Int->Int->Int->Prop
 | [],a,b=>a=b
 |x::st,a,b=>x=a/\exL ns x ≠ -2/\b<x/\StackIs ns st (exL ns x) b
theorem StackIs.le {ns:List PN}:∀ {st:List Int} {a b:Int},StackIs ns st a b->b<=a
 | [],_,_,h=>Int.le_of_eq h.symm
 |x::st,a,b,⟨h1,h2,h3,h4⟩=>by omega
theorem zmg {ns:List PN}:∀(ks st:List Int) (a b:Int),-1<=b->StackIs ns st a b->∀st',popL ks st=some st'->zas (exL ns) ks a ≠ -2/\StackIs ns st' (zas (exL ns) ks a) b
 | [],st,a,b,hb,hs,st',h=>by
  cases h;refine⟨?_,hs⟩;have:=hs.le;show a ≠ -2;omega
 |k::ks,[],a,b,_,hs,st',h=>by cases h
 |k::ks,x::st,a,b,hb,⟨h1,h2,h3,h4⟩,st',h=>by
  have hd:popL (k::ks) (x::st)=if k=x then popL ks st else none:=rfl
  by_cases hk:k=x
  ·rw[hd,if_pos hk] at h
   subst hk;subst h1;have:=zmg ks st (exL ns k) b hb h4 st' h;rw[zbo h2];exact this
  ·rw[hd,if_neg hk] at h;cases h
theorem zzl {ns:List PN}(ks:List Int)(a:Int)(h:zas (exL ns) ks a ≠ -2):zas (exL ns) ks a<=a:=
 (zhv (a+1) (fun j _ hje x h1 h2=>zdg hje h1 h2) ks a (by omega) h).1
theorem zmh {ns:List PN}:∀(ks st:List Int) (a b:Int),StackIs ns st a b->zas (exL ns) ks a ≠ -2->b<=zas (exL ns) ks a->∃st',popL ks st=some st'
 | [],st,a,b,_,_,_=>⟨st,rfl⟩
 |k::ks,[],a,b,hs,he,hb=>by
  obtain⟨rfl,h1,h2⟩:=zbe he;rw[h2] at he hb;have h3:=zzl ks _ he;have h4:=zd5 ns k h1;have h5:k=b:=hs;omega
 |k::ks,x::st,a,b,⟨h1,h2,h3,h4⟩,he,hb=>by
  obtain⟨rfl,h5,h6⟩:=zbe he;subst h1;rw[h6] at he hb;have hd:popL (x::ks) (x::st)=if x=x then popL ks st else none:=rfl
  rw[hd,if_pos rfl];exact zmh ks st _ b h4 he hb
theorem zgf {rs:List PR}{n:PN}{i:Int}{st:List Int}{r:Nat}(h:popL n.kids.reverse st=none):stepO rs n i st r=none:=by unfold stepO;rw[h]
theorem zmi {rs:List PR}{n:PN}{i:Int}{st st':List Int}{r:Nat}(h:popL n.kids.reverse st=some st')(hr:rs[r]?=none):stepO rs n i st r=some (i::st',r):=by
 unfold stepO;rw[h];dsimp only;rw[hr]
theorem zi4 {rs:List PR}{n:PN}{i:Int}{st:List Int}{r:Nat}{x:PR}(h:popL n.kids.reverse st=some [])(hr:rs[r]?=some x)(hx:x.root=i):stepO rs n i st r=some ([],r+1):=by
 unfold stepO;rw[h];dsimp only;rw[hr];dsimp only;rw[if_pos hx,if_pos rfl]
theorem zi5 {rs:List PR}{n:PN}{i y:Int}{st st':List Int}{r:Nat}{x:PR}(h:popL n.kids.reverse st=some (y::st'))(hr:rs[r]?=some x)(hx:x.root=i):stepO rs n i st r=none:=by
 unfold stepO;rw[h];dsimp only;rw[hr];dsimp only;rw[if_pos hx,if_neg (by simp)]
theorem zqk {rs:List PR}{n:PN}{i:Int}{st st':List Int}{r:Nat}{x:PR}(h:popL n.kids.reverse st=some st')(hr:rs[r]?=some x)(hx:x.root≠i):stepO rs n i st r=some (i::st',r):=by
 unfold stepO;rw[h];dsimp only;rw[hr];dsimp only;rw[if_neg hx]
theorem zeb {rs:List PR}{n:PN}{ns:List PN}{i:Int}{st:List Int}{r:Nat}(h:stepO rs n i st r=none):runO rs (n::ns) i st r=false:=by
 show(match stepO rs n i st r with|none=>false|some (st',r')=>runO rs ns (i+1) st' r')=_;rw[h]
theorem zdi {rs:List PR}{n:PN}{ns:List PN}{i:Int}{st st':List Int}{r r':Nat}(h:stepO rs n i st r=some (st',r')):runO rs (n::ns) i st r=runO rs ns (i+1) st' r':=by
 show(match stepO rs n i st r with|none=>false|some (st',r')=>runO rs ns (i+1) st' r')=_;rw[h]
theorem zhc {rs:List PR}{ns:List PN}:∀(rest:List PN) (i:Nat) (st:List Int) (r:Nat) (b:Int),ns.drop i=rest->i<=ns.length->r<=rs.length -> -1<=b->StackIs ns st ((i:Int)-1) b ->
  (∀x,rs[r]?=some x->x.root<=b∨(i:Int)<=x.root)->runO rs rest i st r=ordR ns (rs.drop r) b
 | [],i,st,r,b,hd,hi,hr,hb,hs,hx=>by
  have hin:i=ns.length:=by
   have:=congrArg List.length hd;rw[List.length_drop,List.length_nil] at this;omega
  show(st.isEmpty&&decide (rs.length<=r))=_;by_cases hrl:rs.length<=r
  ·rw[List.drop_eq_nil_of_le hrl]
   show _=(b == (ns.length:Int)-1);cases st with
   |nil=>
    have h1:(i:Int)-1=b:=hs;simp[hrl];omega
   |cons x st=>
    obtain⟨h1,h2,h3,h4⟩:=hs;simp;omega
  ·obtain⟨x,hq⟩:∃x,rs[r]?=some x:=⟨_,List.getElem?_eq_getElem (by omega)⟩
   have hq2:=(List.getElem?_eq_some_iff.1 hq);rw[List.drop_eq_getElem_cons (by omega),hq2.2];have:=hx x hq;show _=(if x.root<=b∨(ns.length:Int)<=x.root∨exL ns x.root≠b then false else _);rw[if_pos (by omega),decide_eq_false (by omega),Bool.and_false]
 |n::rest,i,st,r,b,hd,hi,hr,hb,hs,hx=>by
  have hil:i<ns.length:=by
   rcases Nat.lt_or_ge i ns.length with h|h
   ·exact h
   ·rw[List.drop_eq_nil_of_le h] at hd;cases hd
  have hcons:=List.drop_eq_getElem_cons hil;rw[hd] at hcons;have hn:ns[i]?=some n:=by rw[List.getElem?_eq_getElem hil];injection hcons with h1 h2;rw[h1]
  have hd':ns.drop (i+1)=rest:=by injection hcons with h1 h2;exact h2.symm
  have he:exL ns i=zas (exL ns) n.kids.reverse ((i:Int)-1):=by
   rw[zg0 ns i (by omega),show(i:Int).toNat=i by omega,zbn hn]
  have hle:=hs.le;cases hp:popL n.kids.reverse st with
  |none=>
   rw[zeb (zgf hp)];cases ho:ordR ns (rs.drop r) b with
   |false=>rfl
   |true=>
    have h1:=(zcl _ b hb ho).2 i (by omega) (by omega);rw[he] at h1;obtain⟨st',h2⟩:=zmh _ st _ b hs h1.1 h1.2;rw[h2] at hp;cases hp
  |some st'=>
   have hc:=zmg _ st _ b hb hs st' hp;rw[<-he] at hc;have hnew:StackIs ns ((i:Int)::st') (((i+1:Nat):Int)-1) b:=⟨by omega,hc.1,by omega,hc.2⟩;cases hrx:rs[r]? with
   |none=>
    rw[zdi (zmi hp hrx),show(i:Int)+1=((i+1:Nat):Int) by omega];exact zhc rest (i+1) _ r b hd' (by omega) hr hb hnew (fun x h=>by rw[hrx] at h;cases h)
   |some x=>
    have hrl:=(List.getElem?_eq_some_iff.1 hrx);have hrl1:=hrl.1;have hcd:rs.drop r=x::rs.drop (r+1):=by rw[List.drop_eq_getElem_cons hrl.1,hrl.2]
    by_cases hxi:x.root=i
    ·cases st' with
     |nil=>
      have hb2:exL ns (i:Int)=b:=hc.2;rw[zdi (zi4 hp hrx hxi),hcd,zuh (by omega) (by omega) (by rw[hxi];exact hb2),show(i:Int)+1=((i+1:Nat):Int) by omega];rw[zhc rest (i+1) [] (r+1) i hd' (by omega) (by omega) (by omega) (show((i+1:Nat):Int)-1=i by omega) (fun y _=>by omega),hxi]
     |cons y st''=>
      rw[zeb (zi5 hp hrx hxi),hcd];have h0:y=exL ns i/\exL ns y ≠ -2/\b<y/\StackIs ns st'' (exL ns y) b:=hc.2;have h1:=h0.1;have h3:=h0.2.2.1;have hne:exL ns x.root≠b:=by rw[hxi,<-h1];omega
      show _=(if x.root<=b∨(ns.length:Int)<=x.root∨exL ns x.root≠b then false else _);rw[if_pos (Or.inr (Or.inr hne))]
    ·rw[zdi (zqk hp hrx hxi),show(i:Int)+1=((i+1:Nat):Int) by omega]
     exact zhc rest (i+1) _ r b hd' (by omega) hr hb hnew (fun z h=>by
      have h1:=hx z h;rw[hrx] at h;obtain rfl:=Option.some.inj h;omega)
theorem z4g (rs:List PR)(ns:List PN):runO rs ns 0 [] 0=ordR ns rs (-1):=by
 have:=zhc (rs:=rs) (ns:=ns) ns 0 [] 0 (-1) rfl (Nat.zero_le _) (Nat.zero_le _) (by omega) (show((0:Nat):Int)-1=-1 by omega) (fun x _=>by omega);exact this
def maxK (ds:List Nat)(ks:List Int):Nat:=ks.foldl (fun m k=>max m (ds.getD k.toNat 0)) 0
def depsL (ns:List PN):List Nat:=ns.foldl (fun ds n=>ds++[maxK ds n.kids+1]) []
theorem zi6 (ns:List PN)(n:PN):depsL (ns++[n])=depsL ns++[maxK (depsL ns) n.kids+1]:=by unfold depsL;rw[List.foldl_append];rfl
theorem zec (ns:List PN):(depsL ns).length=ns.length:=by
 have key:∀(ns:List PN) (ds:List Nat),(ns.foldl (fun ds n=>ds++[maxK ds n.kids+1]) ds).length=ds.length+ns.length:=by
  intro ns
  induction ns with
  |nil=>intro ds;rfl
  |cons n ns ih=>intro ds;rw[List.foldl_cons,ih,List.length_append,List.length_singleton,List.length_cons];omega
 have:=key ns [];rw[List.length_nil,Nat.zero_add] at this;exact this
theorem zi7 (ns:List PN):∀(m i:Nat),i+m=ns.length->(depsL ns).take i=depsL (ns.take i)
 |0,i,h=>by rw[List.take_of_length_le (by rw[zec];omega),List.take_of_length_le (by omega)]
 |m+1,i,h=>by
  have ih:=zi7 ns m (i+1) (by omega);rw[List.take_succ_eq_append_getElem (by omega:i<ns.length),zi6] at ih;have h2:=congrArg (List.take i) ih;have hl:(depsL (ns.take i)).length=i:=by rw[zec,List.length_take];omega
  rw[List.take_take,Nat.min_eq_left (Nat.le_succ i),List.take_append_of_le_length (by omega)] at h2;rw[h2,List.take_of_length_le (by omega)]
def dpL (ns:List PN)(i:Nat):Nat:=(depsL ns).getD i 0
theorem zql (ns:List PN)(i k:Nat)(hk:k<i)(hi:i<=ns.length):(depsL (ns.take i)).getD k 0=dpL ns k:=by
 rw[<-zi7 ns (ns.length-i) i (by omega)];unfold dpL;simp only[List.getD];rw[List.getElem?_take,if_pos hk]
theorem zi8 {ds es:List Nat}:∀(ks:List Int) (m:Nat),(∀k,k ∈ ks->ds.getD k.toNat 0=es.getD k.toNat 0)->ks.foldl (fun m k=>max m (ds.getD k.toNat 0)) m=ks.foldl (fun m k=>max m (es.getD k.toNat 0)) m
 | [],_,_=>rfl
 |k::ks,m,h=>by
  rw[List.foldl_cons,List.foldl_cons,h k List.mem_cons_self];exact zi8 ks _ (fun x hx=>h x (List.mem_cons_of_mem _ hx))
theorem zqm {ns:List PN}(hk:zcv ns){i:Nat}{n:PN}(hn:ns[i]?=some n):dpL ns i=maxK (depsL ns) n.kids+1:=by
 obtain⟨hi,hni⟩:=List.getElem?_eq_some_iff.1 hn;have h1:=zql ns (i+1) i (Nat.lt_succ_self _) hi;rw[<-h1,List.take_succ_eq_append_getElem hi,zi6,hni];simp only[List.getD];have hl:(depsL (ns.take i)).length=i:=by rw[zec,List.length_take];omega
 rw[List.getElem?_append_right (by omega),hl,Nat.sub_self];show maxK _ _+1=_;unfold maxK;rw[zi8 (es:=depsL ns) n.kids 0 (fun k hm=>by
  have:=hk i n hn k hm;exact zql ns i k.toNat (by omega) (by omega))]
theorem zuj {ds:List Nat}{b:Nat}:∀(ks:List Int) (m:Nat),m<=b->(∀k,k ∈ ks->ds.getD k.toNat 0<=b)->ks.foldl (fun m k=>max m (ds.getD k.toNat 0)) m<=b
 | [],_,hm,_=>hm
 |k::ks,m,hm,h=>by
  rw[List.foldl_cons];have:=h k List.mem_cons_self;exact zuj ks _ (by omega) (fun x hx=>h x (List.mem_cons_of_mem _ hx))
theorem zuk {ns:List PN}(hk:zcv ns):∀(m i:Nat),i<m->i<ns.length->dpL ns i<=i+1
 |0,i,h,_=>absurd h (Nat.not_lt_zero _)
 |m+1,i,h,hi=>by
  obtain⟨n,hn⟩:∃n,ns[i]?=some n:=⟨_,List.getElem?_eq_getElem hi⟩;rw[zqm hk hn];have:=zuj (ds:=depsL ns) (b:=i) n.kids 0 (Nat.zero_le _) (fun k hm=>by
   have h1:=hk i n hn k hm;have h2:=zuk hk m k.toNat (by omega) (by omega);show dpL ns k.toNat<=i;omega)
  unfold maxK;omega
def rdF (ns:List PN):Nat->Int->Nat
 |0,_=>1
 |m+1,i=>(zcu ns i.toNat).foldl (fun d k=>max d (rdF ns m k)) 0+1
theorem zul {ns:List PN}(hk:zcv ns):∀(m:Nat) (i:Int),0<=i->i<ns.length->rdF ns m i=min (dpL ns i.toNat) (m+1)
 |0,i,h0,hi=>by
  obtain⟨n,hn⟩:∃n,ns[i.toNat]?=some n:=⟨_,List.getElem?_eq_getElem (by omega)⟩;rw[zqm hk hn];show 1=_;omega
 |m+1,i,h0,hi=>by
  obtain⟨n,hn⟩:∃n,ns[i.toNat]?=some n:=⟨_,List.getElem?_eq_getElem (by omega)⟩;show(zcu ns i.toNat).foldl (fun d k=>max d (rdF ns m k)) 0+1=_;rw[zqm hk hn,zbn hn];have key:∀(ks:List Int) (d e:Nat),(∀k,k ∈ ks->0<=k/\k<(i.toNat:Int))->d=min e (m+1)->ks.foldl (fun d k=>max d (rdF ns m k)) d=min (ks.foldl (fun m k=>max m ((depsL ns).getD k.toNat 0)) e) (m+1):=by
   intro ks
   induction ks with
   |nil=>intro d e _ h;exact h
   |cons k ks ih=>
    intro d e hb h;rw[List.foldl_cons,List.foldl_cons];refine ih _ _ (fun x hx=>hb x (List.mem_cons_of_mem _ hx)) ?_;have hk1:=hb k List.mem_cons_self;rw[zul hk m k hk1.1 (by omega),h];show _=min (max e (dpL ns k.toNat)) (m+1);omega
  have:=key n.kids 0 0 (hk i.toNat n hn) (by omega);rw[this];unfold maxK;omega
def fbad (p:Nat->Bool):Nat->Nat->Option Nat
 |0,_=>none
 |m+1,i=>if p i then some i else fbad p m (i+1)
theorem zb3 {p:Nat->Bool}{m i:Nat}(h:p i=true):fbad p (m+1) i=some i:=by
 show(if p i then some i else fbad p m (i+1))=_;rw[if_pos h]
theorem zdu {p:Nat->Bool}{m i:Nat}(h:p i=false):fbad p (m+1) i=fbad p m (i+1):=by
 show(if p i then some i else fbad p m (i+1))=_;rw[if_neg (by rw[h];exact Bool.false_ne_true)]
theorem zfr {p:Nat->Bool}:∀(m i:Nat),fbad p m i=none->∀k,i<=k->k<i+m->p k=false
 |0,i,_,k,h1,h2=>by omega
 |m+1,i,h,k,h1,h2=>by
  cases hp:p i with
  |true=>rw[zb3 hp] at h;cases h
  |false=>
   rw[zdu hp] at h;by_cases hk:k=i
   ·subst hk;exact hp
   ·exact zfr m (i+1) h k (by omega) (by omega)
def zbm (rs:List PR)(i:Nat):Bool:=match rs[i]? with
 |some r=>(rs.take i).any (fun x=>decide (x.name=r.name)) || !nameB (bts r.name)
 |none=>false
def madeB (n:PN)(rules:Nat):Bool:=
 decide (0<=n.op)&&decide (n.op<=9)&&(if n.op<=2 then n.kids.length == 0 else if n.op<=4 then decide (2<=n.kids.length) else n.kids.length == 1) &&
  (if n.op=2 then decide (0<=n.rule)&&decide (n.rule<rules) else n.rule == 0)&&(n.op == 1 || (n.s0 == 0&&n.s1 == 0&&n.s2 == 0&&n.s3 == 0))
def zbc (ns:List PN)(rules:Nat)(i:Nat):Bool:=match ns[i]? with
 |some n=>!madeB n rules
 |none=>false
def zbp (ns:List PN)(i:Nat):Bool:=decide (200<dpL ns i)
inductive Chk where
 |ok
 |large
 |rules (i:Nat)
 |nodes (i:Nat)
 |order
 |deep (i:Nat)
def chkL (rs:List PR)(ns:List PN):Chk:=
 if 1000<rs.length∨10000<ns.length then .large else
 if rs.length=0 then .rules 0 else
 match fbad (zbm rs) rs.length 0 with
 |some i=>.rules i
 |none=>match fbad (zbc ns rs.length) ns.length 0 with
  |some i=>.nodes i
  |none=>if ordR ns rs (-1) then (match fbad (zbp ns) ns.length 0 with
    |some i=>.deep i
    |none=>.ok) else .order
theorem zum {rs:List PR}{ns:List PN}(h:chkL rs ns=.ok):rs.length<=1000/\ns.length<=10000/\0<rs.length/\(∀i,i<rs.length->zbm rs i=false)/\(∀i,i<ns.length->zbc ns rs.length i=false)/\ordR ns rs (-1)=true/\∀i,i<ns.length->dpL ns i<=200:=by
 unfold chkL at h;split at h
 ·cases h
 ·split at h
  ·cases h
  ·split at h
   ·cases h
   ·split at h
    ·cases h
    ·split at h
     ·split at h
      ·cases h
      ·rename_i h1 h2 _ h3 _ h4 h5 _ h6
       refine⟨by omega,by omega,by omega,fun i hi=>zfr _ 0 h3 i (Nat.zero_le _) (by omega),fun i hi=>zfr _ 0 h4 i (Nat.zero_le _) (by omega),h5,fun i hi=>?_⟩;have:=zfr _ 0 h6 i (Nat.zero_le _) (by omega);unfold zbp at this;simpa using this
     ·cases h
def ownL (rs:List PR)(i:Int):Nat:=(rs.takeWhile fun r=>decide (r.root<i)).length
theorem zb4 {r:PR}{t:List PR}{i:Int}(h:r.root<i):ownL (r::t) i=ownL t i+1:=by
 unfold ownL;rw[List.takeWhile_cons,if_pos (by simpa using h)];rfl
theorem zch {r:PR}{t:List PR}{i:Int}(h:¬r.root<i):ownL (r::t) i=0:=by
 unfold ownL;rw[List.takeWhile_cons,if_neg (by simpa using h)];rfl
def RootsUp (b:Int):List PR->Prop
 | []=>True
 |r::t=>b<r.root/\RootsUp r.root t
theorem RootsUp.mem:∀ {rs:List PR} {b:Int},RootsUp b rs->∀r,r ∈ rs->b<r.root
 | [],_,_,r,h=>by cases h
 |x::t,b,⟨h1,h2⟩,r,h=>by
  rcases List.mem_cons.1 h with rfl|h
  ·exact h1
  ·have:=RootsUp.mem h2 r h;omega
open Go.RowKit
def fill:List Oper->Nat->(Nat->Bool)->(Nat->Value)->Act->Act
 | [],_,_,_,a=>a
 |o::r,i,L,vals,a=>fill r (i+1) L vals (if L i then a.put o.dst (vals i) else a)
def z9v:List Oper->Bool
 | []=>true
 |o::r=>(r.all fun o'=>o.dst.isNone || o'.dst != o.dst)&&z9v r
theorem z9q:∀(l:List Oper) (i:Nat) (L L':Nat->Bool) (vals vals':Nat->Value) (a:Act),(∀k,i<=k->L k=L' k/\vals k=vals' k)->fill l i L vals a=fill l i L' vals' a
 | [],_,_,_,_,_,_,_=>rfl
 |o::r,i,L,L',vals,vals',a,h=>by
  unfold fill;rw[(h i (Nat.le_refl _)).1,(h i (Nat.le_refl _)).2];exact z9q r (i+1) L L' vals vals' _ fun k hk=>h k (by omega)
theorem yaan:∀(l:List Oper) (i:Nat) (L:Nat->Bool) (vals:Nat->Value) (a:Act) (d:Option Tmp) (v:Value),(∀o,o ∈ l->d=none∨o.dst≠d)->(fill l i L vals a).put d v=fill l i L vals (a.put d v)
 | [],_,_,_,_,_,_,_=>rfl
 |o::r,i,L,vals,a,d,v,h=>by
  unfold fill;rw[yaan r (i+1) L vals _ d v fun o' ho=>h o' (List.mem_cons.2 (Or.inr ho))];congr 1;split
  ·rcases h o (List.mem_cons.2 (Or.inl rfl)) with rfl|hne
   ·rfl
   ·exact Act.put_comm a (vals i) v (fun t ht he=>hne (by rw[ht,he]))
  ·rfl
theorem z9n {o:Oper}{r:List Oper}(h:z9v (o::r)=true):(∀o',o' ∈ r->o.dst=none∨o'.dst≠o.dst)/\z9v r=true:=by
 unfold z9v at h;rw[Bool.and_eq_true] at h;refine⟨fun o' ho=>?_,h.2⟩;have:=List.all_eq_true.1 h.1 o' ho;rw[Bool.or_eq_true] at this;rcases this with h1|h1
 ·exact .inl (by cases hd:o.dst with|none=>rfl|some d=>rw[hd] at h1;cases h1)
 ·exact .inr (by simpa using h1)
theorem yaao:∀(l:List Oper) (i j:Nat) (o:Oper) (L:Nat->Bool) (vals:Nat->Value) (a:Act) (v:Value),z9v l=true->l[j]?=some o->L (i+j)=false ->
  (fill l i L vals a).put o.dst v=fill l i (fun k=>if k=i+j then true else L k) (fun k=>if k=i+j then v else vals k) a
 | [],_,_,_,_,_,_,_,_,h,_=>by cases h
 |o'::r,i,0,o,L,vals,a,v,ha,h,hL=>by
  cases h;obtain⟨h1,-⟩:=z9n ha;rw[Nat.add_zero] at hL;unfold fill;rw[hL];simp only[Bool.false_eq_true,if_false,Nat.add_zero,if_true];rw[yaan r (i+1) L vals a _ v h1];exact z9q _ _ _ _ _ _ _ fun k hk=>by rw[if_neg (by omega),if_neg (by omega)];exact⟨rfl,rfl⟩
 |o'::r,i,j+1,o,L,vals,a,v,ha,h,hL=>by
  obtain⟨-,h2⟩:=z9n ha;unfold fill;have hi:(i=i+(j+1))=False:=by simp
  simp only[hi,if_false];rw[show i+(j+1)=i+1+j from by omega] at hL ⊢;exact yaao r (i+1) j o L vals _ v h2 h hL
theorem yaa9 (a:Act)(d:Option Tmp)(v:Value):(a.put d v).tmps.size=a.tmps.size:=by cases d<;>simp[Act.put]
theorem z9l:∀(l:List Oper) (i:Nat) (L:Nat->Bool) (vals:Nat->Value) (a:Act) (t:Tmp),(∀o,o ∈ l->o.dst≠some t)->(fill l i L vals a).eval (.tmp t)=a.eval (.tmp t)
 | [],_,_,_,_,_,_=>rfl
 |o::r,i,L,vals,a,t,h=>by
  unfold fill;rw[z9l r (i+1) L vals _ t fun o' ho=>h o' (List.mem_cons.2 (Or.inr ho))];split
  ·exact Act.eval_put fun d hd he=>h o (List.mem_cons.2 (Or.inl rfl)) (by injection he with he;rw[hd,he])
  ·rfl
theorem z98:∀(l:List Oper) (i j:Nat) (o:Oper) (d:Tmp) (L:Nat->Bool) (vals:Nat->Value) (a:Act),z9v l=true->l[j]?=some o->o.dst=some d->L (i+j)=true->d<a.tmps.size ->
  (fill l i L vals a).eval (.tmp d)=vals (i+j)
 | [],_,_,_,_,_,_,_,_,h,_,_,_=>by cases h
 |o'::r,i,0,o,d,L,vals,a,ha,h,hd,hL,hs=>by
  cases h;obtain⟨h1,-⟩:=z9n ha;rw[Nat.add_zero] at hL ⊢;unfold fill;rw[hL,if_pos rfl,z9l r (i+1) L vals _ d fun o'' ho he=>(h1 o'' ho).elim (fun h=>by rw[hd] at h;cases h) (fun h=>h (by rw[hd,he]))];rw[hd];simp[Act.eval,Act.put,hs]
 |o'::r,i,j+1,o,d,L,vals,a,ha,h,hd,hL,hs=>by
  obtain⟨-,h2⟩:=z9n ha;unfold fill;rw[show i+(j+1)=i+1+j from by omega] at hL ⊢;refine z98 r (i+1) j o d L vals _ h2 h hd hL ?_;split
  ·rw[yaa9];exact hs
  ·exact hs
def depB (l:List Oper)(o:Oper)(k:Nat)(d:Tmp):Bool:=(o.after.any fun e=>e.on == k&&Region.binds .any e)&&((l[k]?).bind (·.dst) == some d)
def z3h (P:Program)(l:List Oper)(keep:List Tmp)(a0:Act)(T:Nat->Value->World->Prop)(S:World->Prop)(Q:Exit->Act->World->Prop)(i:Nat)(o:Oper):Prop:=
 ∀(a:Act) (w:World),S w->(∀t,t ∈ keep->a.eval (.tmp t)=a0.eval (.tmp t))->(∀k d,depB l o k d=true->T k (a.eval (.tmp d)) w) ->
  if Region.wanted o (yielded l.toArray a.tmps) then o.wp P a w (fun a' w'=>∃v,a'=a.put o.dst v/\T i v w'/\Below w.heap.size w w'/\S w') Q else T i undef w
def StepsOk (P:Program)(l:List Oper)(keep:List Tmp)(a0:Act)(T:Nat->Value->World->Prop)(S:World->Prop)(Q:Exit->Act->World->Prop):Nat->List Oper->Prop
 |_,[]=>True
 |i,o::r=>z3h P l keep a0 T S Q i o/\StepsOk P l keep a0 T S Q (i+1) r
theorem StepsOk.at {P:Program}{l:List Oper}{keep:List Tmp}{a0:Act}{T:Nat->Value->World->Prop}{S:World->Prop}{Q:Exit->Act->World->Prop} :
  ∀ {r:List Oper} {i:Nat},StepsOk P l keep a0 T S Q i r->∀ {j:Nat} {o:Oper},r[j]?=some o->z3h P l keep a0 T S Q (i+j) o
 | [],_,_,_,_,h=>by cases h
 |o::r,i,h,0,o',h'=>by cases h';exact h.1
 |o::r,i,h,j+1,o',h'=>by rw[show i+(j+1)=i+1+j from by omega];exact h.2.at h'
theorem z99 {P:Program}{md:Region.Mode}{ops:Array Oper}{Q:Exit->Act->World->Prop}(I:Array Bool->Act->World->Prop)
  (hstep:∀listed a w i o,ops[i]?=some o->i ∈ Region.ready md ops listed->I listed a w->wpOp P ops Q i (I (listed.setIfInBounds i true)) a w)
  (hdone:∀listed a w,Region.ready md ops listed=[]->I listed a w->Q .normal a w) :
  ∀(fuel:Nat) (listed:Array Bool) (a:Act) (w:World),(listed.toList.filter fun b=>!b).length<=fuel->listed.size=ops.size->I listed a w->wpAny P md ops Q fuel listed a w
 |0,listed,a,w,hf,hs,hI=>by
  have hr:Region.ready md ops listed=[]:=by
   rw[List.eq_nil_iff_forall_not_mem];intro j hj;obtain⟨h1,o,ho,-⟩:=mem_ready.1 hj;have hj':j<listed.size:=by rw[hs];exact(Array.getElem?_eq_some_iff.1 ho).1
   have hm:false ∈ listed.toList.filter fun b=>!b:=by
    rw[List.mem_filter];refine⟨?_,rfl⟩;rw[Array.getD_eq_getD_getElem?,Array.getElem?_eq_getElem hj'] at h1;have h1:listed[j]=false:=h1;rw[<-h1];simp
   have:=List.length_pos_of_mem hm;omega
  exact⟨hr,hdone _ _ _ hr hI⟩
 |fuel+1,listed,a,w,hf,hs,hI=>by
  refine⟨fun hr=>hdone _ _ _ hr hI,fun i hi=>?_⟩;obtain⟨h1,o,ho,-⟩:=mem_ready.1 hi;have hj':i<listed.size:=by rw[hs];exact(Array.getElem?_eq_some_iff.1 ho).1
  refine wpOp_mono (fun a' w' h=>?_) (hstep listed a w i o ho hi hI);refine z99 I hstep hdone fuel _ a' w' ?_ (by simpa using hs) h;rw[Array.getD_eq_getD_getElem?,Array.getElem?_eq_getElem hj'] at h1;have h1:listed[i]=false:=h1;rw[Array.toList_setIfInBounds];have key:∀(l:List Bool) (i:Nat),l[i]?=some false->((l.set i true).filter fun b=>!b).length+1=(l.filter fun b=>!b).length:=by
   intro l
   induction l with
   |nil=>intro i h;cases h
   |cons b l ih=>
    intro i h;cases i with
    |zero=>cases h;simp
    |succ i=>have:=ih i h;cases b<;>simp at this ⊢<;>omega
  have:=key listed.toList i (by rw[Array.getElem?_toList,Array.getElem?_eq_getElem hj',h1]);omega
def backB:List Oper->Nat->Bool
 | [],_=>true
 |o::r,i=>(o.after.all fun e=>decide (e.on<i))&&backB r (i+1)
theorem yaap:∀ {l:List Oper} {i:Nat},backB l i=true->∀ {j:Nat} {o:Oper},l[j]?=some o->∀e,e ∈ o.after->e.on<i+j
 | [],_,_,_,_,h=>by cases h
 |o::r,i,h,0,o',h'=>by
  cases h';unfold backB at h;rw[Bool.and_eq_true] at h;intro e he;have:=Array.all_eq_true'.1 h.1 e he;simpa using this
 |o::r,i,h,j+1,o',h'=>by
  unfold backB at h;rw[Bool.and_eq_true] at h;intro e he;have:=yaap h.2 h' e he;omega
theorem yaau {l:List Oper}{listed:Array Bool}(hb:backB l 0=true)(hr:Region.ready .any l.toArray listed=[])(hs:listed.size=l.length):∀k,k<l.length->listed.getD k false=true:=by
 intro k
 induction k using Nat.strongRecOn with
 |_ k ih=>
  intro hk;cases hl:listed.getD k false with
  |true=>rfl
  |false=>
   exfalso;have hm:k ∈ Region.ready .any l.toArray listed:=by
    refine mem_ready.2 ⟨?_,l[k],by simp[hk],fun e he _=>?_⟩
    ·rw[Array.getD_eq_getD_getElem?,Array.getElem?_eq_getElem (by omega)] at hl ⊢;exact hl
    ·have:=yaap hb (List.getElem?_eq_getElem hk) e he
     exact ih e.on (by omega) (by omega)
   rw[hr] at hm;cases hm
theorem z9h {P:Program}{l:List Oper}{o:Oper}{a:Act}{w:World}{R:Act->World->Prop}{Q:Exit->Act->World->Prop}{X:Prop}(hg:o.guard=none)(h:o.wp P a w R Q) :
  if Region.wanted o (yielded l.toArray a.tmps)=true then o.wp P a w R Q else X:=by
 rw[if_pos (by simp[Region.wanted,hg])];exact h
def z7u (l:List Oper)(j i:Nat):Bool:=match l[j]? with
 |some o=>o.after.any fun e=>e.on == i&&Region.binds .any e
 |none=>false
def z3i (P:Program)(l:List Oper)(keep:List Tmp)(a0:Act)(T:Nat->Value->World->Prop)(R:World->World->Prop)(S:(Nat->Bool)->World->Prop)(Q:Exit->Act->World->Prop)(i:Nat)(o:Oper):Prop:=
 ∀(L:Nat->Bool) (a:Act) (w:World),L i=false->(∀j,z7u l j i=true->L j=false)->S L w->(∀t,t ∈ keep->a.eval (.tmp t)=a0.eval (.tmp t))->(∀k d,depB l o k d=true->T k (a.eval (.tmp d)) w) ->
  if Region.wanted o (yielded l.toArray a.tmps) then o.wp P a w (fun a' w'=>∃v,a'=a.put o.dst v/\T i v w'/\R w w'/\S (fun k=>if k=i then true else L k) w') Q else T i undef w/\R w w/\S (fun k=>if k=i then true else L k) w
def StepsOn (P:Program)(l:List Oper)(keep:List Tmp)(a0:Act)(T:Nat->Value->World->Prop)(R:World->World->Prop)(S:(Nat->Bool)->World->Prop)(Q:Exit->Act->World->Prop):Nat->List Oper->Prop
 |_,[]=>True
 |i,o::r=>z3i P l keep a0 T R S Q i o/\StepsOn P l keep a0 T R S Q (i+1) r
theorem StepsOn.at {P:Program}{l:List Oper}{keep:List Tmp}{a0:Act}{T:Nat->Value->World->Prop}{R:World->World->Prop}{S:(Nat->Bool)->World->Prop}{Q:Exit->Act->World->Prop} :
  ∀ {r:List Oper} {i:Nat},StepsOn P l keep a0 T R S Q i r->∀ {j:Nat} {o:Oper},r[j]?=some o->z3i P l keep a0 T R S Q (i+j) o
 | [],_,_,_,_,h=>by cases h
 |o::r,i,h,0,o',h'=>by cases h';exact h.1
 |o::r,i,h,j+1,o',h'=>by rw[show i+(j+1)=i+1+j from by omega];exact h.2.at h'
theorem z9i {P:Program}{o:Oper}{a:Act}{w:World}{T:Nat->Value->World->Prop}{i:Nat}{R:World->World->Prop}{S:World->Prop}{Q:Exit->Act->World->Prop}(v:Value)(hv:(execOp a.eval o).run P w=.ok (.value v) w)(hT:T i v w)(hR:R w w)(hS:S w) :
  o.wp P a w (fun a' w'=>∃v,a'=a.put o.dst v/\T i v w'/\R w w'/\S w') Q:=by
 unfold Oper.wp;rw[hv];exact⟨v,rfl,hT,hR,hS⟩
end Go.Proofs.YthhppmehhdlmnaaGreatDoor
namespace Go.Proofs.YthhppmehhdlmnaaGreatDoor
structure PI where
 op:Int
 kids:Int
 rule:Int
 s0:Int
 s1:Int
 s2:Int
 s3:Int
structure PQ where
 name:ByteArray
 items:List PI
theorem PI.eq_iff (n m:PI):(n.op=m.op/\n.kids=m.kids/\n.rule=m.rule/\n.s0=m.s0/\n.s1=m.s1/\n.s2=m.s2/\n.s3=m.s3)↔n=m:=by
 cases n;cases m;simp
instance:DecidableEq PI:=fun n m=>decidable_of_iff _ (PI.eq_iff n m)
theorem PQ.eq_iff (n m:PQ):(n.name=m.name/\n.items=m.items)↔n=m:=by
 cases n;cases m;simp
instance:DecidableEq PQ:=fun n m=>decidable_of_iff _ (PQ.eq_iff n m)
def PI.node (x:PI)(ks:List Int):PN:=⟨x.op,ks,x.rule,x.s0,x.s1,x.s2,x.s3⟩
def shT (d:Nat)(t:Tok):Tok:=⟨t.kind,t.at_+d,t.text,t.rs⟩
end Go.Proofs.YthhppmehhdlmnaaGreatDoor
