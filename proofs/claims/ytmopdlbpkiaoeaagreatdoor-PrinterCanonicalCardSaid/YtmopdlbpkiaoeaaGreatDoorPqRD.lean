/- The reference: Rule, has. -/
import Derived.Test.YtmopdlbpkiaoeaaGreatDoorPqRA
set_option maxRecDepth 100000
set_option maxHeartbeats 2000000
open Go.Value renaming slice->jf
namespace Go.Proofs.YtmopdlbpkiaoeaaGreatDoor
open Go.Lib renaming hid->qaa
section
open Go.RowKit
theorem ziq {x:ByteArray}{i:Nat}:∀ {l:List ByteArray} {m:Nat},fndL (l.take m) x=some i->fndL l x=some i
 | [],m,h=>by rw[List.take_nil] at h;exact h
 |y::l,0,h=>by cases h
 |y::l,m+1,h=>by
  rw[List.take_succ_cons] at h;by_cases hy:y=x
  ·rw[zdx hy] at h ⊢;exact h
  ·rw[zf5 hy] at h ⊢
   obtain⟨k,hk,rfl⟩:=Option.map_eq_some_iff.1 h;rw[ziq hk];rfl
theorem zg0 {l:List ByteArray}{k:Nat}{x:ByteArray}(hx:l[k]?=some x)(h:fndL (l.take k) x=none):fndL l x=some k:=by
 have hk:=(List.getElem?_eq_some_iff.1 hx).1;refine ziq (m:=k+1) ?_;rw[zcu hx,zcf,h];dsimp only;rw[if_pos rfl,List.length_take];congr 1;omega
theorem zok {l:List ByteArray}{k:Nat}{x y:ByteArray}(hx:l[k]?=some y)(hy:y≠x)(h:fndL (l.take k) x=none):fndL (l.take (k+1)) x=none:=by
 rw[zcu hx,zcf,h];exact if_neg hy
theorem zhm (rv nv cv:Value)(rs:List (List Nat × Nat × Int))(f:MF)(x:ByteArray)(w:World)(h:FileIn w rv nv cv rs f)(hr:rs.length<=100000000) :
  Calls Tryz.prog 109 #[.agg #[rv,nv,cv],.string x] w fun e w'=>e=.returned (.int .i64 (idxO (fndL (nmR rs) x)))/\Below w.heap.size w w':=by
 obtain⟨-,⟨a1,c1,rfl,-,ha1⟩,⟨-,a2,c2,rfl,-⟩,a3,c3,rfl,-,-⟩:=h;have HA1:=qaa ha1;have HB0:=qaa (zaa w (.cells #[jf a1 rs.length c1,jf a2 f.nodes.length c2,jf a3 f.calls.length c3] 133));have HX:=qaa (Bl.new w 133 #[jf a1 rs.length c1,jf a2 f.nodes.length c2,jf a3 f.calls.length c3]);clear ha1;go_enter Tryz.func109,Tryz.ntmps109;go_wp2;obtain⟨W0,hW0⟩:∃W0,w.alloc (.cells #[jf a1 rs.length c1,jf a2 f.nodes.length c2,jf a3 f.calls.length c3] 133)=W0:=⟨_,rfl⟩;rw[hW0] at HB0 HX;rw[hW0];clear hW0
 go_loopw [5] (fun c wr=>∃k:Nat,k<=rs.length/\c=.int .i64 k/\wr=W0/\fndL ((nmR rs).take k) x=none) (fun c _=>rs.length-(intOf c).toNat)
 case atStart=>exact⟨0,Nat.zero_le _,rfl,rfl,rfl⟩
 case round=>
  obtain⟨k,hk,rfl,hwr,hf⟩:=hrel;subst hwr;have HF:=qaa hf;have c0:=HX.out.cell (o:=0) (u:=jf a1 rs.length c1) rfl;have cl:=HX.out.lt;clear hf;by_cases hlt:k<rs.length
  ·obtain⟨y,hy⟩:∃y,rs[k]?=some y:=⟨_,List.getElem?_eq_getElem hlt⟩
   rcases HA1.out with hz|⟨ab,ao,rfl,hca⟩
   ·rw[hz] at hlt;exact absurd hlt (Nat.not_lt_zero _)
   obtain⟨e0,e1,e2,e3⟩:=zdt hca hy HB0.out;have k1:(k:Int)<(rs.length:Int):=U
   have HY:=qaa (zgw hy);clear hca hy e1 e2;by_cases hxy:strOf y.1=x
   ·have q1:((strOf y.1).toList == x.toList)=true:=by rw[zeq];exact decide_eq_true hxy
    have HR:Hid (fndL (nmR rs) x=some k):=qaa (zg0 (by rw[<-hxy];exact HY.out) HF.out);clear hxy;go_wp2;go_ret;exact⟨by rw[HR.out];rfl,HB0.out⟩
   ·have q1:((strOf y.1).toList == x.toList)=false:=by rw[zeq];exact decide_eq_false hxy
    have HR:=qaa (zok HY.out hxy HF.out);clear hxy;go_wp2;go_roundw
    case rel=>exact⟨k+1,hlt,by go_num,trivial,HR.out⟩
    case measure=>simp[intOf];omega
  ·obtain rfl:k=rs.length:=U
   have k1:¬(rs.length:Int)<(rs.length:Int):=U
   have HR:Hid (fndL (nmR rs) x=none):=qaa (by
    have:=HF.out;rw[List.take_of_length_le (Nat.le_of_eq (zdv rs))] at this;exact this)
   go_wp2;go_ret;exact⟨by rw[HR.out];rfl,HB0.out⟩
end
