/- slices.Equal of strings, at two slices that hold the same. The reference: Rule, has. -/
import Derived.Deep.QuietTactic
import Derived.BigQuiet
import Derived.Test.YtnmflokhnaiiiaaGreatDoorPkRA
set_option maxRecDepth 100000
set_option maxHeartbeats 2000000
namespace Go.Proofs.YtnmflokhnaiiiaaGreatDoor
section
open Go.RowKit
theorem zmi (u v:Value)(l:List ByteArray)(w:World)(hu:StrsAt w u l)(hv:StrsAt w v l)(hl:l.length<=100000000) :
  Calls Tryz.prog 19 #[u,v] w fun e w'=>e=.returned (.bool true)/\Below w.heap.size w w':=by
 obtain⟨a,ca,rfl,-,ha⟩:=hu;obtain⟨b,cb,rfl,-,hb⟩:=hv;have HA:=Lib.hid ha;have HB:=Lib.hid hb;have q0:((l.length:Int) != (l.length:Int))=false:=by simp
 clear ha hb;go_enter Tryz.func19,Tryz.ntmps19;go_wp2
 go_loopw [13] (fun c wr=>∃(k q:Nat),k<=l.length/\c=.int .i64 k/\wr=w.drewN q) (fun c _=>l.length-(intOf c).toNat)
 case atStart=>exact⟨0,0,Nat.zero_le _,rfl,rfl⟩
 case round=>
  obtain⟨k,q,hk,rfl,rfl⟩:=hrel;by_cases hlt:k<l.length
  ·obtain⟨x,hx⟩:∃x,l[k]?=some x:=⟨_,List.getElem?_eq_getElem hlt⟩
   rcases HA.out with h0|⟨ab,ao,rfl,hca⟩
   ·rw[h0] at hlt;exact absurd hlt (Nat.not_lt_zero _)
   rcases HB.out with h0|⟨bb,bo,rfl,hcb⟩
   ·rw[h0] at hlt;exact absurd hlt (Nat.not_lt_zero _)
   have c1:=hca k (.string x) (by rw[List.getElem?_map,hx];rfl);have c2:=hcb k (.string x) (by rw[List.getElem?_map,hx];rfl);have k1:(k:Int)<(l.length:Int):=by omega
   have q2:(x.toList == x.toList)=true:=by simp
   clear hca hcb hx;go_wp2;go_quiet (fail);go_wp2;go_roundw
   case rel=>exact⟨k+1,_,by omega,by go_num,rfl⟩
   case measure=>simp[intOf];omega
  ·obtain rfl:k=l.length:=by omega
   have k1:¬(l.length:Int)<(l.length:Int):=by omega
   go_wp2;go_ret;exact⟨rfl,zak (Below.refl _ _)⟩
end
section
open Go.RowKit
theorem ziq {x:ByteArray}{i:Nat}:∀ {l:List ByteArray} {m:Nat},fndL (l.take m) x=some i->fndL l x=some i
 | [],m,h=>by rw[List.take_nil] at h;exact h
 |y::l,0,h=>by cases h
 |y::l,m+1,h=>by
  rw[List.take_succ_cons] at h;by_cases hy:y=x
  ·rw[zdx hy] at h ⊢;exact h
  ·rw[zf5 hy] at h ⊢
   obtain⟨k,hk,rfl⟩:=Option.map_eq_some_iff.1 h;rw[ziq hk];rfl
theorem zg0 {l:List ByteArray}{k:Nat}{x:ByteArray}(hx:l[k]?=some x)(h:fndL (l.take k) x=none):fndL l x=some k:=by
 have hk:=(List.getElem?_eq_some_iff.1 hx).1;refine ziq (m:=k+1) ?_;rw[zcu hx,zcf,h];dsimp only;rw[if_pos rfl,List.length_take];congr 1;omega
theorem zok {l:List ByteArray}{k:Nat}{x y:ByteArray}(hx:l[k]?=some y)(hy:y≠x)(h:fndL (l.take k) x=none):fndL (l.take (k+1)) x=none:=by
 rw[zcu hx,zcf,h];exact if_neg hy
theorem zhm (rv nv cv:Value)(rs:List (List Nat × Nat × Int))(f:MF)(x:ByteArray)(w:World)(h:FileIn w rv nv cv rs f)(hr:rs.length<=100000000) :
  Calls Tryz.prog 18 #[.agg #[rv,nv,cv],.string x] w fun e w'=>e=.returned (.int .i64 (idxO (fndL (nmR rs) x)))/\Below w.heap.size w w':=by
 obtain⟨-,⟨a1,c1,rfl,-,ha1⟩,⟨-,a2,c2,rfl,-⟩,a3,c3,rfl,-,-⟩:=h;have HA1:=Lib.hid ha1;have HB0:=Lib.hid (zaa w (.cells #[.slice a1 rs.length c1,.slice a2 f.nodes.length c2,.slice a3 f.calls.length c3] 34));have HX:=Lib.hid (Bl.new w 34 #[.slice a1 rs.length c1,.slice a2 f.nodes.length c2,.slice a3 f.calls.length c3]);clear ha1;go_enter Tryz.func18,Tryz.ntmps18;go_wp2;obtain⟨W0,hW0⟩:∃W0,w.alloc (.cells #[.slice a1 rs.length c1,.slice a2 f.nodes.length c2,.slice a3 f.calls.length c3] 34)=W0:=⟨_,rfl⟩;rw[hW0] at HB0 HX;rw[hW0];clear hW0
 go_loopw [5] (fun c wr=>∃k:Nat,k<=rs.length/\c=.int .i64 k/\wr=W0/\fndL ((nmR rs).take k) x=none) (fun c _=>rs.length-(intOf c).toNat)
 case atStart=>exact⟨0,Nat.zero_le _,rfl,rfl,rfl⟩
 case round=>
  obtain⟨k,hk,rfl,hwr,hf⟩:=hrel;subst hwr;have HF:=Lib.hid hf;have c0:=HX.out.cell (o:=0) (u:=.slice a1 rs.length c1) rfl;have cl:=HX.out.lt;clear hf;by_cases hlt:k<rs.length
  ·obtain⟨y,hy⟩:∃y,rs[k]?=some y:=⟨_,List.getElem?_eq_getElem hlt⟩
   rcases HA1.out with hz|⟨ab,ao,rfl,hca⟩
   ·rw[hz] at hlt;exact absurd hlt (Nat.not_lt_zero _)
   obtain⟨e0,e1,e2,e3⟩:=zdt hca hy HB0.out;have k1:(k:Int)<(rs.length:Int):=by omega
   have HY:=Lib.hid (zgw hy);clear hca hy e1 e2;by_cases hxy:strOf y.1=x
   ·have q1:((strOf y.1).toList == x.toList)=true:=by rw[zeq];exact decide_eq_true hxy
    have HR:Hid (fndL (nmR rs) x=some k):=Lib.hid (zg0 (by rw[<-hxy];exact HY.out) HF.out);clear hxy;go_wp2;go_ret;exact⟨by rw[HR.out];rfl,HB0.out⟩
   ·have q1:((strOf y.1).toList == x.toList)=false:=by rw[zeq];exact decide_eq_false hxy
    have HR:=Lib.hid (zok HY.out hxy HF.out);clear hxy;go_wp2;go_roundw
    case rel=>exact⟨k+1,hlt,by go_num,trivial,HR.out⟩
    case measure=>simp[intOf];omega
  ·obtain rfl:k=rs.length:=by omega
   have k1:¬(rs.length:Int)<(rs.length:Int):=by omega
   have HR:Hid (fndL (nmR rs) x=none):=Lib.hid (by
    have:=HF.out;rw[List.take_of_length_le (Nat.le_of_eq (zdv rs))] at this;exact this)
   go_wp2;go_ret;exact⟨by rw[HR.out];rfl,HB0.out⟩
theorem zol (v:Value)(l:List ByteArray)(x:ByteArray)(w:World)(hv:StrsAt w v l)(hn:l.length<=100000000) :
  Calls Tryz.prog 46 #[v,.string x] w fun e w'=>e=.returned (.bool (fndL l x).isSome)/\w'=w:=by
 obtain⟨a,ca,rfl,-,ha⟩:=hv;have HA:=Lib.hid ha;clear ha;go_enter Tryz.func46,Tryz.ntmps46;go_wp2
 go_loopw [5] (fun c wr=>∃k:Nat,k<=l.length/\c=.int .i64 k/\wr=w/\fndL (l.take k) x=none) (fun c _=>l.length-(intOf c).toNat)
 case atStart=>exact⟨0,Nat.zero_le _,rfl,rfl,rfl⟩
 case round=>
  obtain⟨k,hk,rfl,hwr,hf⟩:=hrel;subst hwr;have HF:=Lib.hid hf;clear hf;by_cases hlt:k<l.length
  ·obtain⟨y,hy⟩:∃y,l[k]?=some y:=⟨_,List.getElem?_eq_getElem hlt⟩
   rcases HA.out with hz|⟨ab,ao,rfl,hca⟩
   ·rw[hz] at hlt;exact absurd hlt (Nat.not_lt_zero _)
   have e0:=hca k (.string y) (by rw[List.getElem?_map,hy];rfl);have e3:=zai e0;have k1:(k:Int)<(l.length:Int):=by omega
   have HY:=Lib.hid hy;clear hca hy;by_cases hxy:y=x
   ·have q1:(y.toList == x.toList)=true:=by rw[zeq];exact decide_eq_true hxy
    have HR:Hid (fndL l x=some k):=Lib.hid (zg0 (by rw[<-hxy];exact HY.out) HF.out);clear hxy;go_wp2;go_ret;exact⟨by rw[HR.out];rfl,rfl⟩
   ·have q1:(y.toList == x.toList)=false:=by rw[zeq];exact decide_eq_false hxy
    have HR:=Lib.hid (zok HY.out hxy HF.out);clear hxy;go_wp2;go_roundw
    case rel=>exact⟨k+1,hlt,by go_num,trivial,HR.out⟩
    case measure=>simp[intOf];omega
  ·obtain rfl:k=l.length:=by omega
   have k1:¬(l.length:Int)<(l.length:Int):=by omega
   have HR:Hid (fndL l x=none):=Lib.hid (by
    have:=HF.out;rw[List.take_length] at this;exact this)
   go_wp2;go_ret;exact⟨by rw[HR.out];rfl,rfl⟩
end
end Go.Proofs.YtnmflokhnaiiiaaGreatDoor
