/- Layer 13: the reference's Explain, given what its Cycle answers. -/
import Derived.Deep.RegionHeld3
import Derived.Deep.Cut
import Derived.Test.YthhppmehhdlmnaaGreatDoorPzLD
import Derived.Test.YthhppmehhdlmnaaGreatDoorPzLS
set_option maxRecDepth 100000
set_option maxHeartbeats 8000000
namespace Go.Proofs.YthhppmehhdlmnaaGreatDoor
section
open Go.RowKit
theorem z9p (sep y:List UInt8)(r:List (List UInt8)):Lib.joinTail sep (y::r)=sep++Lib.join (y::r) sep:=by
 rw[Lib.join_cons];unfold Lib.joinTail;rw[List.map_cons,List.flatten_cons,List.append_assoc]
theorem yaaf (sep z:List UInt8):∀xs:List (List UInt8),Lib.join (xs++[z]) sep=(xs.map (· ++ sep)).flatten++z
 | []=>by simp[Lib.join_one]
 |x::xs=>by
  have ih:=yaaf sep z xs;have h:Lib.joinTail sep (xs++[z])=sep++Lib.join (xs++[z]) sep:=by
   cases xs with
   |nil=>exact z9p sep z []
   |cons y t=>exact z9p sep y (t++[z])
  rw[List.cons_append,Lib.join_cons,h,ih,List.map_cons,List.flatten_cons];simp only[List.append_assoc]
def accS (rs:List PR)(c:List Nat):Nat->ByteArray
 |0=>⟨#[]⟩
 |k+1=>accS rs c k++nameN rs (c.getD k 0)++arr13
theorem yaag (rs:List PR)(c:List Nat):∀k,k<=c.length->(accS rs c k).data.toList=(((c.take k).map (nameN rs)).map (·.data.toList++arr13.data.toList)).flatten
 |0,_=>rfl
 |k+1,h=>by
  have hk:c[k]?=some (c.getD k 0):=by rw[List.getD_eq_getElem?_getD,List.getElem?_eq_getElem (by omega)];rfl
  unfold accS;rw[ByteArray.data_append,ByteArray.data_append,Array.toList_append,Array.toList_append,yaag rs c k (by omega),List.take_add_one,hk,List.map_append,List.map_append,List.flatten_append];simp
theorem yabh (rs:List PR)(c:List Nat)(z:Nat):accS rs c c.length++nameN rs z=joinS ((c++[z]).map (nameN rs)):=by
 have h:=yaag rs c c.length (Nat.le_refl _);rw[List.take_length] at h;unfold joinS;rw[List.map_append,List.map_append,List.map_cons,List.map_nil,List.map_cons,List.map_nil,yaaf];have e:(accS rs c c.length++nameN rs z).data.toList=(((c.map (nameN rs)).map (·.data.toList)).map (· ++ arr13.data.toList)).flatten++(nameN rs z).data.toList:=by
  rw[ByteArray.data_append,Array.toList_append,h];simp only[List.map_map];rfl
 rw[<-e]
theorem yabt {l:List Nat}{w w':World}{e:Ending}(h:zb5 l w e w'):∃a c,e=.returned (.slice a l.length c)/\IntsAt w' (.slice a l.length c) (l.map fun k:Nat=>(k:Int))/\Below w.heap.size w w':=by
 obtain⟨u,rfl,ho,hb⟩:=h;obtain⟨a,c,rfl⟩:=zad ho;refine⟨a,c,rfl,IntsAt.of_own (base:=w.heap.size) ?_,hb⟩;rw[List.length_map];exact ho
theorem yaa8 {G lb lo:Nat}{x:Value}{rv nv:Value}{n0:Nat}{w0 W W':World}(hn:n0<=w0.heap.size)(hb:Below W.heap.size W W')(h:W.cell? ⟨G,0,none⟩=some rv/\W.cell? ⟨G,1,none⟩=some nv/\W.cell? ⟨lb,lo,none⟩=some x/\Below n0 w0 W):W'.cell? ⟨G,0,none⟩=some rv/\W'.cell? ⟨G,1,none⟩=some nv/\W'.cell? ⟨lb,lo,none⟩=some x/\Below n0 w0 W':=by
 obtain⟨h0,h1,h2,h4⟩:=h;have hk:∀ {b o:Nat} {v:Value},W.cell? ⟨b,o,none⟩=some v->W'.cell? ⟨b,o,none⟩=some v:=fun h=>by rw[(bcell hb).1 _ _ (zac h)];exact h
 exact⟨hk h0,hk h1,hk h2,h4.trans (hb.mono (Nat.le_trans hn h4.size))⟩
theorem yaah {rs:List PR}{x:Nat}(hnm:∀r,r ∈ rs->r.name.size<=1000):(nameN rs x).size<=1000:=by
 unfold nameN;split
 ·rename_i y h;exact hnm y (List.mem_of_getElem? h)
 ·exact Nat.zero_le _
theorem yaat {rs:List PR}{c:List Nat}(hnm:∀r,r ∈ rs->r.name.size<=1000):∀k,(accS rs c k).size<=1004*k
 |0=>Nat.zero_le _
 |k+1=>by
  have h1:=yaat (c:=c) hnm k;have h2:=yaah (x:=c.getD k 0) hnm;unfold accS;rw[ByteArray.size_append,ByteArray.size_append];have:arr13.size=4:=rfl;omega
theorem yabi {rs:List PR}{c:List Nat}{k x:Nat}(h:c[k]?=some x):accS rs c (k+1)=accS rs c k++nameN rs x++arr13:=by
 show accS rs c k++nameN rs (c.getD k 0)++arr13=_;rw[List.getD_eq_getElem?_getD,h];rfl
theorem z90 (rv nv:Value)(rs:List PR)(ns:List PN)(w:World)(hR:RulesIn w rv rs)(hN:NodesAt w nv ns)(hO:LeftOk rs ns)(hcy:RCyIs (zai rs ns) rs.length)(hnm:∀r,r ∈ rs->r.name.size<=1000) :
  Calls Tryz.prog 19 #[.agg #[rv,nv]] w fun e w'=>e=.returned (.string (explW rs ns))/\Below w.heap.size w w':=by
 have hrl:=hO.rl;have hN0:=hO.r0;have HGr:=Lib.hid (fun(W:World) (hb:Below w.heap.size w W)=>(z9m rv nv rs ns W (hR.kept hb (Nat.le_refl _)) (hN.kept hb (Nat.le_refl _)) hO).mono fun e w' h=>h.at hN0);have HRe:=Lib.hid (fun(W:World) (hb:Below w.heap.size w W)=>(z93 rv nv rs ns W (hR.kept hb (Nat.le_refl _)) (hN.kept hb (Nat.le_refl _)) hO hcy).mono fun e w' h=>yabt h);have HCY:=Lib.hid hcy;have HCL:=Lib.hid (fun(r:Nat) (hr:r<rs.length)=>zxd (ns:=ns) hr);have hcyl:∀r,r<rs.length->(cycW (zai rs ns) r).length<=rs.length:=fun r hr=>z58 hr
 have hml:∀x,x ∈ recW rs ns->x<rs.length:=fun x hx=>List.mem_range.1 (List.mem_filter.1 hx).1
 have hex:explW rs ns=match recW rs ns with
  | []=>⟨#[]⟩
  |r::_=>joinS ((cycW (zai rs ns) r++[r]).map (nameN rs)):=rfl
 rw[hex];obtain⟨-,ra,rc,rfl,hra⟩:=hR;obtain⟨-,na,nc,rfl,-⟩:=hN;rcases hra with h0|⟨rb,ro,rfl,hca⟩
 ·rw[h0] at hN0;exact absurd hN0 (Nat.lt_irrefl _)
 have HNM:=Lib.hid (fun(W:World) (hb:Below w.heap.size w W) (x:Nat) (hx:x<rs.length)=>show W.cell? ⟨rb,ro+x*2,none⟩=some (.string (nameN rs x)) from by
  obtain⟨y,hy⟩:∃y,rs[x]?=some y:=⟨_,List.getElem?_eq_getElem hx⟩;have h:=(hca x y hy).1;rw[(bcell hb).1 _ _ (zac h),h];unfold nameN;rw[hy])
 have HG0:=Lib.hid (Bl.new w 25 #[.slice (some ⟨rb,ro,none⟩) rs.length rc,.slice na ns.length nc]);have HB0:=Lib.hid (zab w (.cells #[.slice (some ⟨rb,ro,none⟩) rs.length rc,.slice na ns.length nc] 25));have HSZ:=Lib.hid (fun x=>yaah (x:=x) hnm);have HAS:=Lib.hid (fun(c:List Nat) (k:Nat)=>yaat (c:=c) hnm k);generalize hnn:ns.length=nn at *;generalize recW rs ns=m at *;generalize zai rs ns=cs at *;clear hO hcy hex hnn hca;go_enter Tryz.func19,Tryz.ntmps19
 go_upto_region 2 with(go_at_call 14;(with_reducible refine(HRe.out _ HB0.out).mono ?_);rintro e w1 ⟨a1,c1,rfl,hi,hb⟩;have HM1:=Lib.hid hi;have HB1:=Lib.hid (bl_on HB0.out hb);have HG1:=Lib.hid (HG0.out.below hb);clear hi hb)
 cases m with
 |nil=>
  go_wp2;go_ret;exact⟨rfl,HB1.out⟩
 |cons r0 t=>
  have hr0:=hml r0 (List.mem_cons_self ..);obtain⟨M,hM⟩:∃M,(r0::t).length=M:=⟨_,rfl⟩;have hM0:0<M:=by rw[<-hM];simp
  have hM1:((M:Int) == 0)=false:=zaj (by omega);have hM2:(0:Int)<(M:Int):=by omega
  obtain⟨lb,lo,rfl,rx⟩:=HM1.out.cell (i:=0) (x:=(r0:Int)) rfl;rw[Nat.add_zero] at rx;have g0:w1.cell? ⟨w.heap.size,0,none⟩=some (.slice (some ⟨rb,ro,none⟩) rs.length rc):=HG1.out.cell (o:=0) rfl;have g1:w1.cell? ⟨w.heap.size,1,none⟩=some (.slice na nn nc):=HG1.out.cell (o:=1) rfl;obtain⟨G,hG⟩:∃G,G=w.heap.size:=⟨_,rfl⟩;rw[<-hG] at g0 g1;obtain⟨n1,hn1⟩:∃n1,w1.heap.size=n1:=⟨_,rfl⟩;have hnw1:n1<=w1.heap.size:=Nat.le_of_eq hn1.symm;have hS:(fun V:World=>V.cell? ⟨G,0,none⟩=some (.slice (some ⟨rb,ro,none⟩) rs.length rc)/\V.cell? ⟨G,1,none⟩=some (.slice na nn nc)/\V.cell? ⟨lb,lo,none⟩=some (.int .i64 (r0:Int))/\Below n1 w1 V) w1.drew:=⟨g0,g1,rx,by rw[<-hn1];exact(Below.refl _ _).drew⟩;dsimp only at hS;have HWV:=Lib.hid (fun(V:World) (h:Below n1 w1 V)=>show Below w.heap.size w V from bl_on HB1.out (by rw[hn1];exact h));have hCLr:=HCL.out r0 hr0;have HCYr:=Lib.hid (fun(W:World) (gb cap:Nat) (hg:GAt cs rs.length gb W)=>HCY.out W gb cap r0 hg hr0);have HC30:=Lib.hid (show(cycW cs r0).length<=1000000 from by have:=hcyl r0 hr0;omega);generalize hcq:cycW cs r0=c at *;have HCQ:=Lib.hid hcq;clear hcq;have hM':t.length+1=M:=hM;rw[hM];clear HG1 HG0 HB0 HB1 HM1 HRe HCY HCL rx g0 g1 hml hM hM' hn1
  go_upto_region 4 with fail
  rw[<-hG];clear hG
  go_region_held3 (fun V:World=>V.cell? ⟨G,0,none⟩=some (.slice (some ⟨rb,ro,none⟩) rs.length rc)/\V.cell? ⟨G,1,none⟩=some (.slice na nn nc)/\V.cell? ⟨lb,lo,none⟩=some (.int .i64 (r0:Int))/\Below n1 w1 V) (first|exact hS)
   (first
    |(go_at_call 17;with_reducible refine(HGr.out _ (HWV.out _ hS.2.2.2)).mono ?_;rintro ev w6 ⟨gb,cap,rfl,hg,hb⟩;have HGA:=Lib.hid hg;replace hS:=yaa8 hnw1 hb hS;clear hb hg)
    |(go_at_call 16;with_reducible refine(HCYr.out _ gb cap HGA.out).mono ?_;rintro ev w7 ⟨a7,c7,rfl,hi,hb⟩;have HI7:=Lib.hid hi;replace hS:=yaa8 hnw1 hb hS;clear hb hi))
  all_goals
   have HS7:=Lib.hid hS;clear hS HGA HCYr HGr;go_wp2
   go_loopw [6,5] (fun k s wr=>∃kk:Nat,kk<=c.length/\k=.int .i64 (kk:Int)/\s=.string (accS rs c kk)/\Below w7.heap.size w7 wr) (fun k _ _=>c.length-(intOf k).toNat)
   case atStart=>exact⟨0,Nat.zero_le _,rfl,rfl,Below.refl _ _⟩
   case round=>
    obtain⟨kk,hkk,rfl,rfl,hb⟩:=hrel;obtain⟨g0,g1,rx,hbw⟩:=yaa8 hnw1 hb HS7.out;have HBW:=Lib.hid (HWV.out _ hbw);have HB:=Lib.hid hb;have hs1:=HAS.out c kk;have lgg:=zac g0;by_cases hlt:kk<c.length
    ·have k1:(kk:Int)<(c.length:Int):=by omega
     obtain⟨x,hx⟩:∃x,c[kk]?=some x:=⟨_,List.getElem?_eq_getElem hlt⟩;have hxl:=hCLr x (List.mem_of_getElem? hx);have x1:(x:Int)<(rs.length:Int):=by omega
     obtain⟨cb,co,rfl,cx⟩:=(HI7.out.kept hb (Nat.le_refl _)).cell (i:=kk) (x:=(x:Int)) (by rw[List.getElem?_map,hx];rfl);have nx:=HNM.out wr HBW.out x hxl;have lx:=zac cx;have ln:=zac nx;have hs2:=HSZ.out x;have HAC:=Lib.hid (yabi (rs:=rs) hx);have hcl30:c.length<=1000000:=HC30.out;have ha1:∀W,(Op.stringOp .add (accS rs c kk) (nameN rs x)).run Tryz.prog W=.ok (.string (accS rs c kk++nameN rs x)) W:=fun W=>run_string_add_sum W _ _ (by omega)
     have ha2:∀W,(Op.stringOp .add (accS rs c kk++nameN rs x) ⟨#[32,60,45,32]⟩).run Tryz.prog W=.ok (.string (accS rs c kk++nameN rs x++⟨#[32,60,45,32]⟩)) W:=fun W=>run_string_add_sum W _ _ (by
      rw[ByteArray.size_append];have:(⟨#[32,60,45,32]⟩:ByteArray).size=4:=rfl;omega)
     clear hb hbw hx hs1 hs2
     go_upto_region 9 with fail
     go_quiet (fail);go_wp2;go_roundw
     case rel=>exact⟨kk+1,by omega,by go_num,by rw[HAC.out];rfl,by first|exact HB.out|exact HB.out.drew|exact zak HB.out⟩
     case measure=>simp[intOf];omega
    ·obtain rfl:kk=c.length:=by omega
     have k1:¬(c.length:Int)<(c.length:Int):=by omega
     have x1:(r0:Int)<(rs.length:Int):=by omega
     have nx:=HNM.out wr HBW.out r0 hr0;have lx:=zac rx;have ln:=zac nx;have hs2:=HSZ.out r0;have hcl30:c.length<=1000000:=HC30.out;have ha1:∀W,(Op.stringOp .add (accS rs c c.length) (nameN rs r0)).run Tryz.prog W=.ok (.string (accS rs c c.length++nameN rs r0)) W:=fun W=>run_string_add_sum W _ _ (by omega)
     clear hb hbw hs1 hs2
     go_upto_region 10 with fail
     go_quiet (fail);go_wp2;go_ret;exact⟨by show Ending.returned (.string (accS rs c c.length++nameN rs r0))=.returned (.string (joinS ((cycW cs r0).map (nameN rs)++[nameN rs r0])));rw[HCQ.out,yabh,List.map_append];rfl,by first|exact HBW.out|exact HBW.out.drew|exact zak HBW.out⟩
end
end Go.Proofs.YthhppmehhdlmnaaGreatDoor
