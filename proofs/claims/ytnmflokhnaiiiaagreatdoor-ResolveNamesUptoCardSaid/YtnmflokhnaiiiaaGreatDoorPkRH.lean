/- The reference: Undefined, Unused; the same as resolve's missing. The reference: Unused. -/
import Derived.Deep.QuietTactic
import Derived.BigQuiet
import Derived.Test.YtnmflokhnaiiiaaGreatDoorPkRA
import Derived.Test.YtnmflokhnaiiiaaGreatDoorPkRD
set_option maxRecDepth 100000
set_option maxHeartbeats 8000000
namespace Go.Proofs.YtnmflokhnaiiiaaGreatDoor
section
open Go.RowKit
theorem zg3 {n o:List ByteArray}:∀(k:Nat) (x:ByteArray),k<=n.length->(fndL (missL n o k) x).isSome=((fndL (n.take k) x).isSome&&(fndL o x).isNone)
 |0,x,_=>rfl
 |k+1,x,hk=>by
  obtain⟨y,hy⟩:∃y,n[k]?=some y:=⟨_,List.getElem?_eq_getElem (by omega)⟩;have ih:=zg3 (n:=n) (o:=o) k x (by omega);rw[zcu hy,zcf];by_cases hf:fndL n y=some k/\fndL o y=none
  ·rw[zgy hy hf.1 hf.2,zcf]
   cases h1:fndL (n.take k) x with
   |some i=>
    rw[h1] at ih;dsimp only;cases h2:fndL (missL n o k) x with
    |some j=>rw[h2] at ih;exact ih
    |none=>
     rw[h2] at ih;dsimp only;by_cases hyx:y=x
     ·subst hyx
      have e:=ziq h1;rw[hf.1] at e;have:=zqb h1;rw[List.length_take] at this;cases e;omega
     ·rw[if_neg hyx];exact ih
   |none=>
    rw[h1] at ih;cases h2:fndL (missL n o k) x with
    |some j=>rw[h2] at ih;exact absurd ih (by simp)
    |none=>
     dsimp only;by_cases hyx:y=x
     ·subst hyx
      rw[if_pos rfl,if_pos rfl,hf.2];rfl
     ·rw[if_neg hyx,if_neg hyx];rfl
  ·rw[zet hy hf]
   cases h1:fndL (n.take k) x with
   |some i=>rw[h1] at ih;exact ih
   |none=>
    rw[h1] at ih;dsimp only;by_cases hyx:y=x
    ·subst hyx
     rw[if_pos rfl,ih];have e:=zg0 hy h1;have:fndL o y≠none:=fun h=>hf ⟨e,h⟩
     cases h3:fndL o y with
     |none=>exact absurd h3 this
     |some j=>rfl
    ·rw[if_neg hyx,ih]
theorem zld {n o:List ByteArray}{k:Nat}{x:ByteArray}(hx:n[k]?=some x):(fndL n x=some k/\fndL o x=none)↔(fndL o x=none/\(fndL (missL n o k) x).isSome=false):=by
 have hk:=(List.getElem?_eq_some_iff.1 hx).1;have e:=zg3 (n:=n) (o:=o) k x (by omega);constructor
 ·rintro⟨h1,h2⟩
  refine⟨h2,?_⟩;rw[e];cases h3:fndL (n.take k) x with
  |none=>rfl
  |some i=>
   have h4:=ziq h3;have h5:=zqb h3;rw[List.length_take] at h5;rw[h1] at h4;cases h4;omega
 ·rintro⟨h2,h1⟩
  refine⟨zg0 hx ?_,h2⟩;rw[e,h2] at h1;cases h3:fndL (n.take k) x with
  |none=>rfl
  |some i=>rw[h3] at h1;cases h1
theorem zye (rv nv cv:Value)(rs:List (List Nat × Nat × Int))(f:MF)(w:World)(h:FileIn w rv nv cv rs f)(hr:rs.length<=100000000)(hc:f.calls.length<=100000000) :
  Calls Tryz.prog 21 #[.agg #[rv,nv,cv]] w (StrsIs (missL (nmC f) (nmR rs) f.calls.length) w):=by
 have HFI:=Lib.hid (fun(x:ByteArray) (W:World) (hW:Below w.heap.size w W)=>zhm _ _ _ rs f x W (h.below hW) hr);obtain⟨-,⟨a1,c1,rfl,-,-⟩,⟨-,a2,c2,rfl,-⟩,a3,c3,rfl,-,ha3⟩:=h;have HA:=Lib.hid ha3;have HB0:=Lib.hid (zaa w (.cells #[.slice a1 rs.length c1,.slice a2 f.nodes.length c2,.slice a3 f.calls.length c3] 34));have HX:=Lib.hid (Bl.new w 34 #[.slice a1 rs.length c1,.slice a2 f.nodes.length c2,.slice a3 f.calls.length c3]);obtain⟨ii,hii,hz0,hz1,hz2⟩:=info_parts zgv;clear ha3;go_enter Tryz.func21,Tryz.ntmps21;go_wp2;obtain⟨W0,hW0⟩:∃W0,w.alloc (.cells #[.slice a1 rs.length c1,.slice a2 f.nodes.length c2,.slice a3 f.calls.length c3] 34)=W0:=⟨_,rfl⟩;rw[hW0] at HB0 HX;rw[hW0];clear hW0;have hs0:=HB0.out.size
 go_loopw [4,3] (fun c v wr=>∃k:Nat,k<=f.calls.length/\c=.int .i64 k/\Below W0.heap.size W0 wr/\wr.ownsRow W0.heap.size 9 1 v (missL (nmC f) (nmR rs) k).length (strV (missL (nmC f) (nmR rs) k))) (fun c _ _=>f.calls.length-(intOf c).toNat)
 case atStart=>exact⟨0,Nat.zero_le _,rfl,Below.refl _ _,World.ownsRow_nil _ _ _ _⟩
 case round=>
  obtain⟨k,hk,rfl,hb,hown⟩:=hrel;have hlm:=zee (nmC f) (nmR rs) k;obtain⟨va,vc,rfl⟩:=zag hown;have hbs:=hb.size;have HB:=Lib.hid hb;have HO:=Lib.hid hown;have HXR:=Lib.hid (HX.out.below hb);have c0:=HXR.out.cell (o:=0) (u:=.slice a1 rs.length c1) rfl;have c1':=HXR.out.cell (o:=1) (u:=.slice a2 f.nodes.length c2) rfl;have c2':=HXR.out.cell (o:=2) (u:=.slice a3 f.calls.length c3) rfl;have cl:=HXR.out.lt;clear hb hown;by_cases hlt:k<f.calls.length
  ·obtain⟨y,hy⟩:∃y,f.calls[k]?=some y:=⟨_,List.getElem?_eq_getElem hlt⟩
   rcases HA.out with hz|⟨ab,ao,rfl,hca⟩
   ·rw[hz] at hlt;exact absurd hlt (Nat.not_lt_zero _)
   have HBW:=Lib.hid (HB0.out.trans (HB.out.mono hs0));obtain⟨e0,e1,e3⟩:=zcy hca hy HBW.out;have k1:(k:Int)<(f.calls.length:Int):=by omega
   have HY:=Lib.hid (zgx hy);obtain⟨x,hxe⟩:∃x,strOf y.1=x:=⟨_,rfl⟩;rw[hxe] at e0 HY;have HRU:=Lib.hid (HFI.out x _ HBW.out);have HHA:=Lib.hid (fun(W:World) (hW:Below wr.heap.size wr W)=>zol (.slice va (missL (nmC f) (nmR rs) k).length vc) (missL (nmC f) (nmR rs) k) x W ((StrsAt.of_own HO.out).below hW) (by omega));have HT:=Lib.hid (zld (o:=nmR rs) HY.out);clear hca hy e1 hxe;cases hf:fndL (nmR rs) x with
   |some j=>
    rw[hf] at HRU;have HRU:Hid (Calls Tryz.prog 18 #[.agg #[.slice a1 rs.length c1,.slice a2 f.nodes.length c2,.slice (some ⟨ab,ao,none⟩) f.calls.length c3],.string x] wr fun e w'=>e=.returned (.int .i64 (j:Int))/\Below wr.heap.size wr w'):=HRU;have HE:=Lib.hid (zet (o:=nmR rs) HY.out (by rw[hf];simp));have k2:¬(j:Int)<0:=by omega
    clear hf
    go_wp2_with (go_at_call 18;(with_reducible refine HRU.out.mono ?_);rintro e w3 ⟨rfl,hb⟩;have HB3:=Lib.hid hb;clear hb)
    go_roundw
    case rel=>exact⟨k+1,hlt,by go_num,HB.out.trans (HB3.out.mono hbs),by rw[HE.out];exact zab HO.out HB3.out⟩
    case measure=>simp[intOf];omega
   |none=>
    rw[hf] at HRU;have HRU:Hid (Calls Tryz.prog 18 #[.agg #[.slice a1 rs.length c1,.slice a2 f.nodes.length c2,.slice (some ⟨ab,ao,none⟩) f.calls.length c3],.string x] wr fun e w'=>e=.returned (.int .i64 (-1))/\Below wr.heap.size wr w'):=HRU;cases hh:(fndL (missL (nmC f) (nmR rs) k) x).isSome with
    |true=>
     rw[hh] at HHA;have HE:=Lib.hid (zet (o:=nmR rs) HY.out (by rw[HT.out,hh];simp));clear hf hh
     go_wp2_with (first
      |(go_at_call 18;(with_reducible refine HRU.out.mono ?_);rintro e w3 ⟨rfl,hb⟩;have HB3:=Lib.hid hb;clear hb)
      |(go_at_call 46;(with_reducible refine(HHA.out _ HB3.out).mono ?_);rintro e w4 ⟨rfl,hw4⟩;obtain rfl:=hw4.symm;clear hw4))
     go_roundw
     case rel=>exact⟨k+1,hlt,by go_num,HB.out.trans (HB3.out.mono hbs),by rw[HE.out];exact zab HO.out HB3.out⟩
     case measure=>simp[intOf];omega
    |false=>
     rw[hh] at HHA;have HE:Hid (missL (nmC f) (nmR rs) (k+1)=missL (nmC f) (nmR rs) k++[x]):=Lib.hid (by
      have:=HT.out.2 ⟨hf,hh⟩;exact zgy HY.out this.1 this.2)
     clear hf hh
     go_wp2_with (first
      |(go_at_call 18;(with_reducible refine HRU.out.mono ?_);rintro e w3 ⟨rfl,hb⟩;have hs3:=hb.size;have HB3:=Lib.hid hb;clear hb)
      |(go_at_call 46;(with_reducible refine(HHA.out _ HB3.out).mono ?_);rintro e w4 ⟨rfl,hw4⟩;obtain rfl:=hw4.symm;clear hw4)
      |(at_builtin;refine wpList_append_own _ rfl _ _ 58 rfl W0.heap.size 9 ii _ 1 16 Tryz.underlying58 hii hz0 hz1 hz2 rfl (by decide) _ (missL (nmC f) (nmR rs) k).length _ rfl (zab (zab HO.out HB3.out) (zaa w3 _)) ⟨_,0,none⟩ 1 1 [.string x] rfl rfl (zat _ _ _) (by simp[Value.oneCell']) (by unfold maxLen;omega) (by omega) (by simp;omega) ?_;intro v5 w5 hown' hgrow _;have HO5:=Lib.hid hown';have HB5:=Lib.hid (Below.grown (HB.out.trans ((HB3.out.trans ((zaa w3 _).mono HB3.out.size)).mono hbs)) hgrow (by simp;omega) (fun g e=>(HO.out.lt g e).1))))
     go_roundw
     case rel=>exact⟨k+1,hlt,by go_num,HB5.out,by rw[HE.out,List.length_append];exact(by unfold strV;rw[List.map_append];exact HO5.out)⟩
     case measure=>simp[intOf];omega
  ·obtain rfl:k=f.calls.length:=by omega
   have k1:¬(f.calls.length:Int)<(f.calls.length:Int):=by omega
   go_wp2;go_ret;exact⟨_,rfl,za2 HO.out hs0,HB0.out.trans (HB.out.mono hs0)⟩
end
section
open Go.RowKit
theorem zos (rv nv cv:Value)(rs:List (List Nat × Nat × Int))(f:MF)(D:List ByteArray)(hD:D=(nmR rs).drop 1)(w:World)(h:FileIn w rv nv cv rs f)(hr:rs.length<=100000000)(hc:f.calls.length<=100000000) :
  Calls Tryz.prog 23 #[.agg #[rv,nv,cv]] w (StrsIs (missL D (nmC f) D.length) w):=by
 obtain⟨-,⟨a1,c1,rfl,-,ha1⟩,⟨-,a2,c2,rfl,-⟩,a3,c3,rfl,-,ha3⟩:=h;have HA1:=Lib.hid ha1;have HA3:=Lib.hid ha3;have HB0:=Lib.hid (zaa w (.cells #[.slice a1 rs.length c1,.slice a2 f.nodes.length c2,.slice a3 f.calls.length c3] 34));have HX:=Lib.hid (Bl.new w 34 #[.slice a1 rs.length c1,.slice a2 f.nodes.length c2,.slice a3 f.calls.length c3]);have HLD:Hid (D.length=rs.length-1):=Lib.hid (by rw[hD,List.length_drop,zdv]);have HD:=Lib.hid hD;obtain⟨ii,hii,hz0,hz1,hz2⟩:=info_parts zgv;clear ha1 ha3 hD;go_enter Tryz.func23,Tryz.ntmps23;go_wp2;obtain⟨W0,hW0⟩:∃W0,w.alloc (.cells #[.slice a1 rs.length c1,.slice a2 f.nodes.length c2,.slice a3 f.calls.length c3] 34)=W0:=⟨_,rfl⟩;rw[hW0] at HB0 HX;rw[hW0];clear hW0;have hs0:=HB0.out.size
 go_loopw [4,3] (fun c v wr=>∃k:Nat,(k+1<=rs.length∨k=0)/\c=.int .i64 ((k:Int)+1)/\Below W0.heap.size W0 wr/\wr.ownsRow W0.heap.size 9 1 v (missL D (nmC f) k).length (strV (missL D (nmC f) k))) (fun c _ _=>rs.length-(intOf c).toNat)
 case atStart=>exact⟨0,.inr rfl,rfl,Below.refl _ _,World.ownsRow_nil _ _ _ _⟩
 case round=>
  obtain⟨k,hk,rfl,hb,hown⟩:=hrel;have hlm:=zee D (nmC f) k;obtain⟨va,vc,rfl⟩:=zag hown;have hbs:=hb.size;have HB:=Lib.hid hb;have HO:=Lib.hid hown;have HXR:=Lib.hid (HX.out.below hb);have c0:=HXR.out.cell (o:=0) (u:=.slice a1 rs.length c1) rfl;have c2':=HXR.out.cell (o:=2) (u:=.slice a3 f.calls.length c3) rfl;have cl:=HXR.out.lt;clear hb hown;by_cases hlt:k+1<rs.length
  ·obtain⟨y,hy⟩:∃y,rs[k+1]?=some y:=⟨_,List.getElem?_eq_getElem hlt⟩
   rcases HA1.out with hz|⟨ab,ao,rfl,hca⟩
   ·rw[hz] at hlt;exact absurd hlt (Nat.not_lt_zero _)
   have HBW:=Lib.hid (HB0.out.trans (HB.out.mono hs0));obtain⟨e0,e1,e2,e3⟩:=zdt hca hy HBW.out;have k1:(k:Int)+1<(rs.length:Int):=by omega
   have HY:Hid (D[k]?=some (strOf y.1)):=Lib.hid (by rw[HD.out,List.getElem?_drop,Nat.add_comm];exact zgw hy);obtain⟨x,hxe⟩:∃x,strOf y.1=x:=⟨_,rfl⟩;rw[hxe] at e0 HY;have HT:=Lib.hid (zld (o:=nmC f) HY.out);have HE0:=Lib.hid e0;clear hca hy e1 e2 hxe;go_wp2;obtain⟨w1,rfl⟩:∃w1,w1=wr:=⟨_,rfl⟩;clear c0 c2' cl e0 e3 k1
   go_loopw [6,5] (fun c v wq=>∃j:Nat,j<=f.calls.length/\c=.int .i64 j/\v=.bool (fndL ((nmC f).take j) x).isSome/\Below w1.heap.size w1 wq) (fun c _ _=>f.calls.length-(intOf c).toNat)
   case atStart=>exact⟨0,Nat.zero_le _,rfl,rfl,Below.refl _ _⟩
   case round=>
    obtain⟨j,hj,rfl,rfl,hb⟩:=hrel;have hbs2:=hb.size;have HB2:=Lib.hid hb;have HX2:=Lib.hid (HXR.out.below hb);have c0:=HX2.out.cell (o:=0) (u:=.slice (some ⟨ab,ao,none⟩) rs.length c1) rfl;have c2':=HX2.out.cell (o:=2) (u:=.slice a3 f.calls.length c3) rfl;have cl:=HX2.out.lt;have e0:wr.cell? ⟨ab,ao+(k+1)*3,none⟩=some (.string x):=by
     rw[(bcell hb).1 _ _ (zai HE0.out)];exact HE0.out
    have e3:=zai e0;have k1:(k:Int)+1<(rs.length:Int):=by omega
    clear hb;by_cases hjl:j<f.calls.length
    ·obtain⟨z,hz⟩:∃z,f.calls[j]?=some z:=⟨_,List.getElem?_eq_getElem hjl⟩
     rcases HA3.out with h0|⟨cb,co,rfl,hca⟩
     ·rw[h0] at hjl;exact absurd hjl (Nat.not_lt_zero _)
     obtain⟨d0,-,d3⟩:=zcy hca hz (HBW.out.trans (HB2.out.mono HBW.out.size));have k2:(j:Int)<(f.calls.length:Int):=by omega
     have HZ:=Lib.hid (zcu (zgx hz));clear hca hz;cases hcd:fndL ((nmC f).take j) x with
     |some i=>
      have HR:Hid ((fndL ((nmC f).take (j+1)) x).isSome=true):=Lib.hid (by rw[HZ.out,zcf,hcd];rfl);have hv:(some i:Option Nat).isSome=true:=rfl;rw[hv];clear hcd;go_wp2;go_quiet (fail);go_wp2;go_roundw
      case rel=>exact⟨j+1,hjl,by go_num,by rw[HR.out],zak HB2.out⟩
      case measure=>simp[intOf];omega
     |none=>
      have hv:(none:Option Nat).isSome=false:=rfl;rw[hv];by_cases hzx:strOf z.1=x
      ·have q1:((strOf z.1).toList == x.toList)=true:=by rw[zeq];exact decide_eq_true hzx
       have HR:Hid ((fndL ((nmC f).take (j+1)) x).isSome=true):=Lib.hid (by rw[HZ.out,zcf,hcd];dsimp only;rw[if_pos hzx];rfl);clear hcd hzx;go_wp2;go_quiet (fail);go_wp2;go_roundw
       case rel=>exact⟨j+1,hjl,by go_num,by rw[HR.out],zak HB2.out⟩
       case measure=>simp[intOf];omega
      ·have q1:((strOf z.1).toList == x.toList)=false:=by rw[zeq];exact decide_eq_false hzx
       have HR:Hid ((fndL ((nmC f).take (j+1)) x).isSome=false):=Lib.hid (by rw[HZ.out,zcf,hcd];dsimp only;rw[if_neg hzx];rfl);clear hcd hzx;go_wp2;go_quiet (fail);go_wp2;go_roundw
       case rel=>exact⟨j+1,hjl,by go_num,by rw[HR.out],zak HB2.out⟩
       case measure=>simp[intOf];omega
    ·obtain rfl:j=f.calls.length:=by omega
     have k2:¬(f.calls.length:Int)<(f.calls.length:Int):=by omega
     have hta:(nmC f).take f.calls.length=nmC f:=List.take_of_length_le (Nat.le_of_eq (zcv f));rw[hta];have HO3:=Lib.hid (zab HO.out HB2.out);have HB3:=Lib.hid (HB.out.trans (HB2.out.mono hbs));have hs3:=HB3.out.size;clear hta;cases hcd:fndL (nmC f) x with
     |some i=>
      have HE:=Lib.hid (zet (o:=nmC f) HY.out (by rw[hcd];simp));have hv:(some i:Option Nat).isSome=true:=rfl;rw[hv];clear hcd;go_wp2;go_roundw
      case rel=>exact⟨k+1,.inl hlt,by go_num,HB3.out,by rw[HE.out];exact HO3.out⟩
      case measure=>simp[intOf];omega
     |none=>
      have hv:(none:Option Nat).isSome=false:=rfl;rw[hv];have HHA:=Lib.hid (zol (.slice va (missL D (nmC f) k).length vc) (missL D (nmC f) k) x wr (StrsAt.of_own HO3.out) (by omega));cases hh:(fndL (missL D (nmC f) k) x).isSome with
      |true=>
       rw[hh] at HHA;have HE:=Lib.hid (zet (o:=nmC f) HY.out (by rw[HT.out,hh];simp));clear hcd hh
       go_wp2_with (go_at_call 46;(with_reducible refine HHA.out.mono ?_);rintro e w4 ⟨rfl,hw4⟩;obtain rfl:=hw4.symm;clear hw4)
       go_roundw
       case rel=>exact⟨k+1,.inl hlt,by go_num,HB3.out,by rw[HE.out];exact HO3.out⟩
       case measure=>simp[intOf];omega
      |false=>
       rw[hh] at HHA;have HE:Hid (missL D (nmC f) (k+1)=missL D (nmC f) k++[x]):=Lib.hid (by
        have:=HT.out.2 ⟨hcd,hh⟩;exact zgy HY.out this.1 this.2)
       clear hcd hh
       go_wp2_with (first
        |(go_at_call 46;(with_reducible refine HHA.out.mono ?_);rintro e w4 ⟨rfl,hw4⟩;obtain rfl:=hw4.symm;clear hw4)
        |(at_builtin;refine wpList_append_own _ rfl _ _ 58 rfl W0.heap.size 9 ii _ 1 16 Tryz.underlying58 hii hz0 hz1 hz2 rfl (by decide) _ (missL D (nmC f) k).length _ rfl (zab HO3.out (zaa _ _)) ⟨_,0,none⟩ 1 1 [.string x] rfl rfl (zat _ _ _) (by simp[Value.oneCell']) (by unfold maxLen;omega) (by omega) (by simp;omega) ?_;intro v5 w5 hown' hgrow _;have HO5:=Lib.hid hown';have HB5:=Lib.hid (Below.grown (HB3.out.trans ((zaa _ _).mono hs3)) hgrow (by simp;omega) (fun g e=>(HO3.out.lt g e).1))))
       go_roundw
       case rel=>exact⟨k+1,.inl hlt,by go_num,HB5.out,by rw[HE.out,List.length_append];exact(by unfold strV;rw[List.map_append];exact HO5.out)⟩
       case measure=>simp[intOf];omega
  ·have k1:¬(k:Int)+1<(rs.length:Int):=by omega
   have hkl:D.length=k:=by rw[HLD.out];omega
   have HKL:=Lib.hid hkl;clear hkl;go_wp2;go_ret;exact⟨.slice va (missL D (nmC f) k).length vc,rfl,by rw[HKL.out];exact za2 HO.out hs0,HB0.out.trans (HB.out.mono hs0)⟩
end
end Go.Proofs.YtnmflokhnaiiiaaGreatDoor
