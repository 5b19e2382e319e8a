/- slices.Index and slices.Contains of ints. -/
import Derived.Test.YthhppmehhdlmnaaGreatDoorPkD
set_option maxRecDepth 100000
set_option maxHeartbeats 4000000
namespace Go.Proofs.YthhppmehhdlmnaaGreatDoor
section
open Go.RowKit
theorem zp6 {l:List Int}{k:Nat}{x y:Int}(h:l[k]?=some y)(hx:x ∉ l.take k)(hy:y≠x):x ∉ l.take (k+1):=by
 rw[zap l k y h];intro hm;rcases List.mem_append.1 hm with hm|hm
 ·exact hx hm
 ·exact hy (List.mem_singleton.1 hm).symm
theorem zzf (u:Value)(l:List Int)(x:Int)(w:World)(hl:l.length<=1000000)(hu:IntsAt w u l) :
  Calls Tryz.prog 44 #[u,.int .i64 x] w fun e w'=>∃i:Int,e=.returned (.int .i64 i)/\w'=w /\ -1<=i/\i<=1000000/\(x ∈ l↔0<=i):=by
 obtain⟨a,ca,rfl,ha⟩:=hu;go_enter Tryz.func44,Tryz.ntmps44;go_wp2
 go_loopw [8] (fun c wr=>∃k:Nat,k<=l.length/\c=.int .i64 k/\wr=w/\x ∉ l.take k) (fun c _=>l.length-(intOf c).toNat)
 case atStart=>exact⟨0,Nat.zero_le _,rfl,rfl,by simp⟩
 case round=>
  obtain⟨k,hk,rfl,rfl,hno⟩:=hrel;have HNO:=Lib.hid hno;clear hno;by_cases hlt:k<l.length
  ·have k1:(k:Int)<(l.length:Int):=by omega
   obtain⟨y,hy⟩:∃y,l[k]?=some y:=⟨_,List.getElem?_eq_getElem hlt⟩;rcases ha with h0|⟨ab,ao,rfl,hca⟩
   ·rw[h0] at hlt;exact absurd hlt (Nat.not_lt_zero _)
   have c0:=hca k y hy;have HY:=Lib.hid hy;clear hca hy;by_cases hxy:x=y
   ·subst hxy
    have q1:(x == x)=true:=by simp
    go_wp2;go_ret;exact⟨(k:Int),rfl,rfl,by omega,by omega,fun _=>by omega,fun _=>List.mem_of_getElem? HY.out⟩
   ·have q1:(x == y)=false:=zaj hxy
    have HXY:=Lib.hid hxy;clear hxy;go_wp2;go_roundw
    case rel=>exact⟨k+1,by omega,by go_num,trivial,zp6 HY.out HNO.out (fun e=>HXY.out e.symm)⟩
    case measure=>simp[intOf];omega
  ·obtain rfl:k=l.length:=by omega
   have k1:¬(l.length:Int)<(l.length:Int):=by omega
   go_wp2;go_ret;exact⟨-1,rfl,rfl,by omega,by omega,fun h=>absurd (by rw[List.take_length];exact h) HNO.out,fun h=>by omega⟩
theorem zp7 (u:Value)(l:List Int)(x:Int)(b:Bool)(w:World)(hl:l.length<=1000000)(hu:IntsAt w u l)(hb:decide (x ∈ l)=b) :
  Calls Tryz.prog 22 #[u,.int .i64 x] w fun e w'=>e=.returned (.bool b)/\w'=w:=by
 have HC:=Lib.hid (zzf u l x w hl hu);have HB:=Lib.hid hb;obtain⟨a,ca,rfl,-⟩:=hu;clear hb;go_enter Tryz.func22,Tryz.ntmps22
 go_wp2_with (go_at_call 44;(with_reducible refine HC.out.mono ?_);rintro e w2 ⟨i,rfl,hw,hi1,hi2,hi3⟩;obtain rfl:=hw.symm;have HI:=Lib.hid hi3;clear hw hi3)
 go_ret;refine⟨zaf ?_,rfl⟩;rw[<-HB.out,decide_eq_decide];exact HI.out.symm
end
end Go.Proofs.YthhppmehhdlmnaaGreatDoor
