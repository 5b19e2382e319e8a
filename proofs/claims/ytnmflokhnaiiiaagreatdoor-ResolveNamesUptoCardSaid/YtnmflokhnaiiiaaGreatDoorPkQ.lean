/- The reference: all tokens. The reference: its state; kind, wrong, add. append(append([]T{}, xs...), y): what is known of the blocks while its operations are dra -/
import Derived.Deep.QuietTactic
import Derived.Deep.Cut
import Derived.Test.YtnmflokhnaiiiaaGreatDoorPkA
import Derived.Test.YtnmflokhnaiiiaaGreatDoorPkC
import Derived.Test.YtnmflokhnaiiiaaGreatDoorPkF
import Derived.Test.YtnmflokhnaiiiaaGreatDoorPkD
import Derived.Test.YtnmflokhnaiiiaaGreatDoorPkL
set_option maxRecDepth 100000
set_option maxHeartbeats 4000000
namespace Go.Proofs.YtnmflokhnaiiiaaGreatDoor
section
open Go.RowKit
def kI (k:Nat):Int:=if k=99 then -1 else (k:Int)
def rtokC (t:Tok):List Value:=[.int .i64 (kI t.kind),.int .i64 (t.at_:Int),.string (strOf t.text),.int .u64 (setW (inRs t.rs) 0),.int .u64 (setW (inRs t.rs) 1),.int .u64 (setW (inRs t.rs) 2),.int .u64 (setW (inRs t.rs) 3)]
def zgr (ts:List Tok):List Value:=ts.flatMap rtokC
theorem zf2 (ts:List Tok)(t:Tok):zgr (ts++[t])=zgr ts++rtokC t:=by unfold zgr;rw[List.flatMap_append];simp
theorem zwi {t:Tok}(h:t.kind≠99):rtokC t=tokC t:=by unfold rtokC tokC kI;rw[if_neg h]
def z4f (T:List Tok)(w:World)(e:Ending)(w':World):Prop:=∃v,e=.returned v/\w'.ownsRow w.heap.size 91 7 v T.length (zgr T)/\Below w.heap.size w w'
theorem zpz (s:ByteArray)(w:World)(hs:s.size<=1050000):Calls Tryz.prog 30 #[.string s] w (z4f (strm (bts s) 0) w):=by
 obtain⟨i0,hi0,hz0,hz1,hz2⟩:=info_parts z36;have HB0:=Lib.hid (Below.refl w.heap.size w);go_enter Tryz.func30,Tryz.ntmps30;go_wp2
 go_loopw [3,4] (fun v c wr=>∃(k:Nat) (acc:List Tok),k<=s.size/\c=.int .i64 k/\wr.ownsRow w.heap.size 91 7 v acc.length (zgr acc)/\Below w.heap.size w wr/\acc.length<=k/\strm (bts s) 0=acc++strm (bts s) k) (fun _ c _=>s.size-(intOf c).toNat)
 case atStart=>exact⟨0,[],Nat.zero_le _,rfl,World.ownsRow_nil _ _ _ _,HB0.out,Nat.le_refl _,rfl⟩
 case round=>
  obtain⟨k,acc,hk,rfl,hs3,hb,hac,hu⟩:=hrel;have HU:=Lib.hid hu;have hsz:=hb.size;obtain⟨va,vc,rfl⟩:=zag hs3;clear hu;cases hn:nextL (bts s) k with
  |error b=>
   have hr:strm (bts s) 0=acc++[⟨99,b,[],[]⟩]:=by rw[HU.out,zcg hn]
   have HR:=Lib.hid hr;have HN:=Lib.hid hn;have b0:0<=(b:Int):=by omega
   have htc:rtokC ⟨99,b,[],[]⟩=[.int .i64 (-1),.int .i64 (b:Int),.string ⟨#[]⟩,.int .u64 0,.int .u64 0,.int .u64 0,.int .u64 0]:=by
    unfold rtokC;simp only[zc6];rfl
   have HTC:=Lib.hid htc;clear hr hn htc
   go_wp2_with (first
    |(go_at_call 52;(with_reducible refine(zvv s k b _ hs hk HN.out).mono ?_);rintro e w1 ⟨rfl,hb1⟩;have hs1:=zab hs3 hb1;have hB1:=hb.trans (hb1.mono hsz);have hsz1:=hb1.size;clear hb1)
    |(at_builtin;refine wpList_append_own _ rfl _ _ 86 rfl w.heap.size 91 i0 (.agg #[.int .i64 0,.int .i64 0,.string ⟨#[]⟩,.int .u64 0,.int .u64 0,.int .u64 0,.int .u64 0]) 7 64 Tryz.underlying86 hi0 hz0 hz1 hz2 rfl (by decide) _ _ _ rfl ((hs1.alloc _).alloc _) ⟨w1.heap.size+1,0,none⟩ 1 1 [.int .i64 (-1),.int .i64 (b:Int),.string ⟨#[]⟩,.int .u64 0,.int .u64 0,.int .u64 0,.int .u64 0] rfl rfl (zcd w1 _ _ 91) (by simp[Value.oneCell']) (by unfold maxLen;omega) (by omega) (by simp;omega) ?_;intro v' w2 hown' hgrow _))
   have hB2:=((hB1.alloc (by omega) _).alloc (by simp;omega) _).grown hgrow (by simp;omega) (fun k e=>(hs1.lt k e).1);go_ret;refine⟨_,rfl,?_,hB2⟩;rw[HR.out,zf2,HTC.out,List.length_append];exact hown'
  |ok x=>
   obtain⟨t,n⟩:=x;have hm:=za6 (bts s) k (by rw[zaj];exact hk) t n hn;rw[zaj] at hm;have h99:t.kind≠99:=by have:=zd8 hn;omega
   have htc:=Lib.hid (zwi h99);have HN:=Lib.hid hn;have bneg:¬(0:Int) <= -1:=by omega
   by_cases ht:t.kind=0
   ·have hr:strm (bts s) 0=acc++[t]:=by rw[HU.out,zbt hn ht]
    have HR:=Lib.hid hr;have ht0:((t.kind:Int) == 0)=true:=by rw[beq_iff_eq];omega
    clear hr hn hm ht h99
    go_wp2_with (first
     |(go_at_call 52;(with_reducible refine(zrd s k t n _ hs hk HN.out).mono ?_);rintro e w1 ⟨rfl,hb1⟩;have hs1:=zab hs3 hb1;have hB1:=hb.trans (hb1.mono hsz);have hsz1:=hb1.size;clear hb1)
     |(at_builtin;refine wpList_append_own _ rfl _ _ 86 rfl w.heap.size 91 i0 (.agg #[.int .i64 0,.int .i64 0,.string ⟨#[]⟩,.int .u64 0,.int .u64 0,.int .u64 0,.int .u64 0]) 7 64 Tryz.underlying86 hi0 hz0 hz1 hz2 rfl (by decide) _ _ _ rfl ((hs1.alloc _).alloc _) ⟨w1.heap.size+1,0,none⟩ 1 1 (tokC t) rfl rfl (zcd w1 (.cells (tokC t).toArray 91) (tokC t) 91) (by simp[tokC,Value.oneCell']) (by unfold maxLen;omega) (by omega) (by simp;omega) ?_;intro v' w2 hown' hgrow _;have hkc:=zii hs1 hgrow rfl))
    have hB2:=((hB1.alloc (by omega) _).alloc (by simp;omega) _).grown hgrow (by simp;omega) (fun k e=>(hs1.lt k e).1);go_ret;refine⟨_,rfl,?_,hB2⟩;rw[HR.out,zf2,htc.out,List.length_append];exact hown'
   ·have hmv:k<n/\n<=s.size:=by
     rcases hm with h|h
     ·exact absurd h.1 ht
     ·exact h.2
    have hr:strm (bts s) 0=(acc++[t])++strm (bts s) n:=by rw[HU.out,zbe hn ht (by rw[zaj];exact hmv)];simp
    have HR:=Lib.hid hr;have ht0:((t.kind:Int) == 0)=false:=by rw[beq_eq_false_iff_ne];omega
    clear hr hn hm h99
    go_wp2_with (first
     |(go_at_call 52;(with_reducible refine(zrd s k t n _ hs hk HN.out).mono ?_);rintro e w1 ⟨rfl,hb1⟩;have hs1:=zab hs3 hb1;have hB1:=hb.trans (hb1.mono hsz);have hsz1:=hb1.size;clear hb1)
     |(at_builtin;refine wpList_append_own _ rfl _ _ 86 rfl w.heap.size 91 i0 (.agg #[.int .i64 0,.int .i64 0,.string ⟨#[]⟩,.int .u64 0,.int .u64 0,.int .u64 0,.int .u64 0]) 7 64 Tryz.underlying86 hi0 hz0 hz1 hz2 rfl (by decide) _ _ _ rfl ((hs1.alloc _).alloc _) ⟨w1.heap.size+1,0,none⟩ 1 1 (tokC t) rfl rfl (zcd w1 (.cells (tokC t).toArray 91) (tokC t) 91) (by simp[tokC,Value.oneCell']) (by unfold maxLen;omega) (by omega) (by simp;omega) ?_;intro v' w2 hown' hgrow _;have hkc:=zii hs1 hgrow rfl))
    have hB2:=((hB1.alloc (by omega) _).alloc (by simp;omega) _).grown hgrow (by simp;omega) (fun k e=>(hs1.lt k e).1);have ho2:w2.ownsRow w.heap.size 91 7 v' (acc++[t]).length (zgr (acc++[t])):=by rw[zf2,htc.out,List.length_append];exact hown'
    have HO2:=Lib.hid ho2;clear hown' ho2;go_roundw
    case rel=>exact⟨n,acc++[t],hmv.2,by go_num,HO2.out,hB2,by simp;omega,HR.out⟩
    case measure=>simp[intOf];omega
end
section
open Go.RowKit
structure RC where
 base:Nat
 T:List Tok
 one:Bool
structure SV where
 la:Option Addr
 lc:Nat
 i:Int
 ra:Option Addr
 rn:Nat
 rc:Nat
 na:Option Addr
 nn:Nat
 nc:Nat
 ca:Option Addr
 cn:Nat
 cc:Nat
 bad:Int
 dp:Bool
def SV.v (x:SV)(R:RC):Value:=.agg #[.slice x.la R.T.length x.lc,.int .i64 x.i,.slice x.ra x.rn x.rc,.slice x.na x.nn x.nc,.slice x.ca x.cn x.cc,.int .i64 x.bad,.bool x.dp,.bool R.one]
def RFix (R:RC)(x:SV)(W:World):Prop:=W.ownsRow R.base 91 7 (.slice x.la R.T.length x.lc) R.T.length (zgr R.T)/\R.T.length<=2000000
def RSt (R:RC)(rs:List (List Nat × Nat × Int))(ts:List Tok)(f:MF)(qs:List Value)(x:SV)(W:World):Prop:=
 RFix R x W/\x.bad=-1/\x.dp=false/\(∃n:Nat,x.i=n/\R.T.drop n=ts)/\ts≠[]/\x.rn=rs.length/\x.nn=f.nodes.length/\x.cn=f.calls.length /\
  NRow R.base (.slice x.na x.nn x.nc) f.nodes qs W/\W.ownsRow R.base 104 2 (.slice x.ca x.cn x.cc) f.calls.length (zcw f.calls)/\W.ownsRow R.base 95 3 (.slice x.ra x.rn x.rc) rs.length (defsC rs)
def RF (R:RC)(rs:List (List Nat × Nat × Int))(ts:List Tok)(f:MF)(qs:List Value)(lo:Nat)(x:SV)(W:World):Prop:=∃tq,RSt R rs ts f (qs++tq) x W/\∀q,q ∈ tq->∀b,q.ownBlock=some b->lo<=b
def DRow (R:RC)(rs:List (List Nat × Nat × Int))(x:SV)(W:World):Prop:=x.rn=rs.length/\W.ownsRow R.base 95 3 (.slice x.ra x.rn x.rc) rs.length (defsC rs)
def RBad (R:RC)(rs:List (List Nat × Nat × Int))(a:List Tok)(dp:Bool)(x:SV)(W:World):Prop:=RFix R x W/\x.dp=dp/\(∃n:Nat,x.bad=n/\R.T.drop n=a)/\a≠[]/\DRow R rs x W
section
variable {R:RC} {rs:List (List Nat × Nat × Int)} {ts a:List Tok} {f:MF} {x:SV} {W W':World} {dp:Bool}
theorem RFix.below (h:RFix R x W)(hb:Below W.heap.size W W'):RFix R x W':=⟨zab h.1 hb,h.2⟩
theorem RSt.below {qs:List Value}(h:RSt R rs ts f qs x W)(hb:Below W.heap.size W W'):RSt R rs ts f qs x W':=by
 obtain⟨h1,h2,h3,h4,h5,h6,h7,h8,h9,h10,h11⟩:=h;exact⟨h1.below hb,h2,h3,h4,h5,h6,h7,h8,h9.grown hb,zab h10 hb,zab h11 hb⟩
theorem RF.below {qs:List Value}{lo:Nat}(h:RF R rs ts f qs lo x W)(hb:Below W.heap.size W W'):RF R rs ts f qs lo x W':=by
 obtain⟨tq,h1,h2⟩:=h;exact⟨tq,h1.below hb,h2⟩
theorem RF.trans {qs tq:List Value}{lo lo':Nat}(h:RF R rs ts f (qs++tq) lo' x W)(ht:∀q,q ∈ tq->∀b,q.ownBlock=some b->lo<=b)(hl:lo<=lo'):RF R rs ts f qs lo x W:=by
 obtain⟨t2,h1,h2⟩:=h;refine⟨tq++t2,by rw[<-List.append_assoc];exact h1,fun q hq b hb=>?_⟩;rcases List.mem_append.1 hq with hq|hq
 ·exact ht q hq b hb
 ·exact Nat.le_trans hl (h2 q hq b hb)
theorem RF.lo {qs:List Value}{lo lo':Nat}(h:RF R rs ts f qs lo x W)(hl:lo'<=lo):RF R rs ts f qs lo' x W:=by
 obtain⟨tq,h1,h2⟩:=h;exact⟨tq,h1,fun q hq b hb=>Nat.le_trans hl (h2 q hq b hb)⟩
theorem RSt.rf {qs:List Value}{lo:Nat}(h:RSt R rs ts f qs x W):RF R rs ts f qs lo x W:=⟨[],by rw[List.append_nil];exact h,fun q hq=>nomatch hq⟩
theorem RSt.lt {qs:List Value}(h:RSt R rs ts f qs x W):∀q,q ∈ qs->∀b,q.ownBlock=some b->b<W.heap.size:=fun q hq b hb=>by
 have hR:=h.2.2.2.2.2.2.2.2.1;obtain⟨j,hj⟩:=List.getElem?_of_mem hq;have hl:=(List.getElem?_eq_some_iff.1 hj).1;obtain⟨m,hm⟩:∃m,f.nodes[j]?=some m:=⟨_,List.getElem?_eq_getElem (by rw[<-hR.1];exact hl)⟩;exact((hR.2.2 j m q hm hj).lt b hb).2
theorem DRow.below (h:DRow R rs x W)(hb:Below W.heap.size W W'):DRow R rs x W':=⟨h.1,zab h.2 hb⟩
theorem RSt.rrow {qs:List Value}(h:RSt R rs ts f qs x W):DRow R rs x W:=⟨h.2.2.2.2.2.1,h.2.2.2.2.2.2.2.2.2.2⟩
theorem RBad.below (h:RBad R rs a dp x W)(hb:Below W.heap.size W W'):RBad R rs a dp x W':=⟨h.1.below hb,h.2.1,h.2.2.1,h.2.2.2.1,h.2.2.2.2.below hb⟩
theorem zwj {T:List Tok}{i j:Nat}{t:Tok}(h:T[i]?=some t)(hj:j<7):(zgr T)[i*7+j]?=(rtokC t)[j]?:=zd2 rtokC 7 (fun _=>rfl) T i t j h hj
theorem RFix.tok (h:RFix R x W){n:Nat}{t:Tok}{tl:List Tok}(hn:R.T.drop n=t::tl):n<R.T.length/\∃b,x.la=some ⟨b,0,none⟩/\(W.cell? ⟨b,n*7,none⟩=some (.int .i64 (kI t.kind))/\W.cell? ⟨b,n*7+1,none⟩=some (.int .i64 (t.at_:Int))/\W.cell? ⟨b,n*7+2,none⟩=some (.string (strOf t.text))/\W.cell? ⟨b,n*7+3,none⟩=some (.int .u64 (setW (inRs t.rs) 0))/\W.cell? ⟨b,n*7+4,none⟩=some (.int .u64 (setW (inRs t.rs) 1))/\W.cell? ⟨b,n*7+5,none⟩=some (.int .u64 (setW (inRs t.rs) 2))/\W.cell? ⟨b,n*7+6,none⟩=some (.int .u64 (setW (inRs t.rs) 3)))/\b<W.heap.size:=by
 have hlt:n<R.T.length:=by
  rcases Nat.lt_or_ge n R.T.length with h|h
  ·exact h
  ·rw[List.drop_eq_nil_of_le h] at hn;cases hn
 have ht:R.T[n]?=some t:=by
  have:(R.T.drop n)[0]?=some t:=by rw[hn];rfl
  rw[List.getElem?_drop] at this;exact this
 obtain⟨h,-⟩:=h;have h':=h;rcases h.2 with⟨e,h0⟩|⟨g,cap,cur,e,-⟩
 ·have:R.T.length=0:=by
   injection e
  omega
 ·injection e with e1 e2 e3
  have hc:∀j,j<7->W.cell? ⟨g,n*7+j,none⟩=(rtokC t)[j]?:=fun j hj=>by
   have hx:=zwj ht hj;cases hv:(rtokC t)[j]? with
   |none=>exact absurd (List.getElem?_eq_none_iff.1 hv) (by show ¬7<=j;omega)
   |some u=>
    rw[hv] at hx;rw[e1] at h';have:=h'.cells rfl (n*7+j) u hx;rw[Addr.add_lit,Nat.zero_add] at this;exact this
  refine⟨hlt,g,e1,⟨hc 0 (by decide),hc 1 (by decide),hc 2 (by decide),hc 3 (by decide),hc 4 (by decide),hc 5 (by decide),hc 6 (by decide)⟩,?_⟩;rw[e1] at h';exact(h'.lt g rfl).2
end
theorem za9 (R:RC)(x:SV)(w:World)(n:Nat)(t:Tok)(tl:List Tok)(h:RFix R x w)(hi:x.i=n)(hn:R.T.drop n=t::tl):Calls Tryz.prog 31 #[x.v R] w fun e w'=>e=.returned (.int .i64 (kI t.kind))/\Below w.heap.size w w':=by
 obtain⟨hlt,b,hla,⟨c0,-⟩,hb⟩:=h.tok hn;have hT:=h.2;obtain⟨la,lc,i,ra,rn,rc,na,nn,nc,ca,cn,cc,bad,dp⟩:=x;have hla:la=some ⟨b,0,none⟩:=hla;have hi:i=n:=hi;subst hla hi;unfold SV.v;dsimp only;obtain⟨T,one,L,hL⟩:∃(T:Unit) (one:Bool) (L:Nat),R.T.length=L:=⟨(),R.one,_,rfl⟩;rw[hL] at hlt hT ⊢;have k1:(n:Int)<(L:Int):=by omega
 obtain⟨kk,hkk⟩:∃y,kI t.kind=y:=⟨_,rfl⟩;rw[hkk] at c0 ⊢;obtain⟨on,hon⟩:∃y,R.one=y:=⟨_,rfl⟩;rw[hon];clear h hn hL hkk hon;go_enter Tryz.func31,Tryz.ntmps31;go_wp2;go_ret;exact⟨rfl,zaa w _⟩
theorem ztc (R:RC)(x:SV)(w:World):Calls Tryz.prog 32 #[x.v R] w fun e w'=>e=.returned (.tuple #[({ x with bad:=x.i }:SV).v R,.int .i64 0])/\Below w.heap.size w w':=by
 obtain⟨la,lc,i,ra,rn,rc,na,nn,nc,ca,cn,cc,bad,dp⟩:=x;unfold SV.v;dsimp only;generalize R.T.length=L;generalize R.one=one;go_enter Tryz.func32,Tryz.ntmps32;go_wp2;refine bodyPost_ret (v:=.tuple #[.agg #[.slice la L lc,.int .i64 i,.slice ra rn rc,.slice na nn nc,.slice ca cn cc,.int .i64 i,.bool dp,.bool one],.int .i64 0]) (by simp[results,Tryz.results32,go_sem]) rfl ⟨rfl,?_⟩;exact zbo w _ _
end
section
open Go.RowKit
def RK (lo:Nat)(e:TypeId)(k:Nat)(elem:List Value)(W W':World):Prop:=
 W.heap.size<=W'.heap.size/\∀(b:Nat) (c:Array Value),lo<=b->W.heap[b]?=some (.cells c e (0,0))->∃c':Array Value,W'.heap[b]?=some (.cells c' e (0,0))/\c'.size=c.size/\∀j,j<c.size->c'[j]?=c[j]?∨(k<=j/\k+elem.length<=c.size/\c'[j]?=elem[j-k]?)
section
variable {lo k sz n:Nat} {e:TypeId} {elem xs:List Value} {W W':World} {v:Value}
theorem RK.refl:RK lo e k elem W W:=⟨Nat.le_refl _,fun _ c _ h=>⟨c,h,rfl,fun _ _=>.inl rfl⟩⟩
theorem RK.of_grown (h:W.grownBy W' none):RK lo e k elem W W':=⟨h.size,fun b c _ hb=>⟨c,by rw[h.block b (Array.getElem?_eq_some_iff.1 hb).1 (by simp)];exact hb,rfl,fun _ _=>.inl rfl⟩⟩
theorem RK.row (h:RK lo e k elem W W')(hr:W.ownsRow lo e sz v n xs)(hk:n*sz<=k∨∃cs,xs=cs++elem/\cs.length=k):W'.ownsRow lo e sz v n xs:=by
 rcases hr.2 with hn|⟨g,cap,cur,rfl,hg,hW,hnc,hcm,hcs,ht⟩
 ·exact⟨hr.1,.inl hn⟩
 ·obtain⟨c',h1,h2,h3⟩:=h.2 g cur hg hW
  refine⟨hr.1,.inr ⟨g,cap,c',rfl,hg,h1,hnc,hcm,by rw[h2];exact hcs,?_⟩⟩;have hle:n*sz<=cur.size:=by rw[hcs];exact Nat.mul_le_mul_right _ hnc
  refine List.ext_getElem? fun j=>?_
  rw[List.getElem?_take,Array.getElem?_toList];by_cases hj:j<n*sz
  ·rw[if_pos hj]
   have hx:xs[j]?=cur[j]?:=by rw[<-ht,List.getElem?_take,if_pos hj,Array.getElem?_toList]
   rcases h3 j (by omega) with h4|⟨h4,h5,h6⟩
   ·rw[h4,hx]
   ·rcases hk with hk|⟨cs,hcs2,hk⟩
    ·omega
    ·rw[h6,hcs2,List.getElem?_append_right (by omega),hk]
  ·rw[if_neg hj,List.getElem?_eq_none (by rw[hr.1];omega)]
end
section
variable {P:Program} (w:World) (lo:Nat) (t ty e:TypeId) (i:TypeInfo) (z:Value) (size bytes:Nat) (ht:P.underlying t=some (.slice e)) (hi:P.info? e=some i) (hz:i.zero=some z)
  (hsize:i.size=size) (hby:i.bytes=bytes) (hzs:z.cells.size=size)
include ht hi hz hsize hby hzs
theorem zjf (B:Nat)(hB:w.ownsRow lo e size (.slice (some ⟨B,0,none⟩) 0 0) 0 [])(a:Option Addr)(m c:Nat)(news:List Value)(hl:news.length=m*size)(ha:m=0∨∃b off,a=some ⟨b,off,none⟩/\∀j u,news[j]?=some u->w.cell? ⟨b,off+j,none⟩=some u)(h1:∀u ∈ news,u.oneCell'=true)
  (h63:m<=maxLen) (hbytes:m*bytes<=140737488355328) (hbase:lo<=w.heap.size) :
  ∃a' c' w',(Builtin.append_ #[t,t] ty #[.slice (some ⟨B,0,none⟩) 0 0,.slice a m c]).run P w=.ok (.slice a' m c') w'/\w'.ownsRow lo e size (.slice a' m c') m news/\w.grownBy w' none:=by
 subst hsize;subst hby;rcases Nat.eq_zero_or_pos m with h0|h0
 ·subst h0
  obtain rfl:news=[]:=List.length_eq_zero_iff.1 (by rw[hl,Nat.zero_mul]);exact⟨_,_,_,zhe w t ty e i ht hi B a c,hB,⟨rfl,rfl,rfl,Nat.le_refl _,fun _ _ _=>rfl⟩⟩
 ·rcases ha with h|⟨b,off,rfl,hc⟩
  ·omega
  have hn:∀j u,news[j]?=some u->w.cell? ((⟨b,off,none⟩:Addr).add j)=some u:=fun j u h=>by rw[Addr.add_lit];exact hc j u h
  have hr:=run_append_grow (P:=P) w t ty e i z ht hi hz ⟨B,0,none⟩ 0 0 [] (by simp) (fun j u h=>by simp at h) ⟨b,off,none⟩ m c news hl hn (by omega) (by simp only[maxLen] at h63;omega) (growslice_fits (by omega) (by rw[Nat.zero_add];exact hbytes));rw[Nat.zero_add] at hr;have hge:=grownCap_ge w m 0 e;have hcm:grownCap w m 0 e<=maxLen:=grownCap_le_maxLen w m 0 e h63;refine⟨_,_,_,hr,⟨hl,.inr ⟨w.heap.size,_,_,rfl,hbase,heap_alloc_new w.drew _,hge,hcm,?_,?_⟩⟩,⟨rfl,rfl,rfl,by simp,fun k hk _=>heap_alloc_old w.drew _ hk⟩⟩
  ·simp only[Array.size_append,List.size_toArray,size_zeroCells,hzs,hl,List.length_nil,Nat.zero_add,<-Nat.add_mul]
   congr 1;omega
  ·simp only[Array.toList_append,List.nil_append]
   rw[<-hl];exact List.take_left
theorem zhg (a:Option Addr)(n c:Nat)(xs:List Value)(hown:w.ownsRow lo e size (.slice a n c) n xs)(E c1:Nat)(elem:List Value)(hE:w.ownsRow lo e size (.slice (some ⟨E,0,none⟩) 1 c1) 1 elem)(h1:∀u ∈ elem,u.oneCell'=true)
  (h63:n+1<=maxLen) (hbytes:(n+1)*bytes<=140737488355328) (hbase:lo<=w.heap.size) :
  ∃a' c' w',(Builtin.append_ #[t,t] ty #[.slice a n c,.slice (some ⟨E,0,none⟩) 1 c1]).run P w=.ok (.slice a' (n+1) c') w'/\w'.ownsRow lo e size (.slice a' (n+1) c') (n+1) (xs++elem)/\RK lo e (n*size) elem w w'/\Below lo w w':=by
 subst hsize;subst hby;have hl:elem.length=1*i.size:=hE.1;have hlen:(xs++elem).length=(n+1)*i.size:=by rw[List.length_append,hown.1,hl,Nat.add_mul]
 have hnews:∀j u,elem[j]?=some u->w.cell? ((⟨E,0,none⟩:Addr).add j)=some u:=fun j u h=>hE.cells rfl j u h
 have hsmall:n+1<=9223372036854775807:=by simp only[maxLen] at h63;omega
 have grown:∀(old:Nat),old<n+1 ->
   (w.drew.alloc (.cells (xs.toArray++elem.toArray++Builtin.zeroCells z.cells (grownCap w (n+1) old e-(n+1))) e)).ownsRow lo e i.size
    (.slice (some ⟨w.heap.size,0,none⟩) (n+1) (grownCap w (n+1) old e)) (n+1) (xs++elem) /\
   w.grownBy (w.drew.alloc (.cells (xs.toArray++elem.toArray++Builtin.zeroCells z.cells (grownCap w (n+1) old e-(n+1))) e)) none:=by
  intro old ho;have hge:=grownCap_ge w (n+1) old e;have hcm:grownCap w (n+1) old e<=maxLen:=grownCap_le_maxLen w (n+1) old e h63;refine⟨⟨hlen,.inr ⟨w.heap.size,_,_,rfl,hbase,heap_alloc_new w.drew _,hge,hcm,?_,?_⟩⟩,⟨rfl,rfl,rfl,by simp,fun k hk _=>heap_alloc_old w.drew _ hk⟩⟩
  ·simp only[Array.size_append,List.size_toArray,size_zeroCells,hzs,hown.1,hl,<-Nat.add_mul]
   congr 1;omega
  ·simp only[Array.toList_append,List.append_assoc]
   rw[<-List.append_assoc,<-hlen];exact List.take_left
 rcases hown.2 with⟨hv,rfl⟩|⟨g,cap,cur,hv,hbg,hg,hnc,hcm,hcs,htake⟩
 ·injection hv with e1 _ e3
  subst e1 e3;have hx:xs=[]:=List.eq_nil_of_length_eq_zero (by simpa using hown.1);subst hx;have hr:=run_append_nil (P:=P) w t ty e i z ht hi hz ⟨E,0,none⟩ 1 c1 elem hl hnews (by omega) (by omega) (by have hb:=hbytes;simp only[Nat.zero_add] at hb;omega);have hgr:=grown 0 (by omega);simp only[Nat.zero_add,List.nil_append,Array.empty_append] at hgr ⊢;exact⟨_,_,_,hr,hgr.1,.of_grown hgr.2,(zb1 hgr.2).mono hbase⟩
 ·injection hv with e1 _ e3
  subst e1 e3;by_cases hroom:n+1<=c
  ·have hfit:n*i.size+elem.length<=cur.size:=by rw[hl,hcs,<-Nat.add_mul];exact Nat.mul_le_mul_right _ hroom
   have hr:=run_append_room (P:=P) w t ty e i ht hi g n c cur hg ⟨E,0,none⟩ 1 c1 elem hl hnews h1 hroom hfit;refine⟨_,_,_,hr,⟨hlen,.inr ⟨g,c,_,rfl,hbg,setRow_heap w g cur _ e _ hg,hroom,hcm,?_,?_⟩⟩,⟨by simp[World.setRow],fun b cc hb hcc=>?_⟩,⟨rfl,rfl,rfl,by simp[World.setRow],fun b hb=>setRow_other w g b _ (by omega)⟩⟩
   ·simp only[List.size_toArray,List.length_append,List.length_take,List.length_drop,Array.length_toList]
    omega
   ·rw[htake,<-hlen]
    exact List.take_left
   ·by_cases hbe:b=g
    ·subst hbe
     rw[hg] at hcc;injection hcc with hcc;injection hcc with hcc;subst hcc;refine⟨_,setRow_heap w b cur _ e _ hg,?_,fun j hj=>?_⟩
     ·simp only[List.size_toArray,List.length_append,List.length_take,List.length_drop,Array.length_toList]
      omega
     ·have hxl:(cur.toList.take (n*i.size)).length=n*i.size:=by rw[List.length_take,Array.length_toList];omega
      rw[List.getElem?_toArray];by_cases hj1:j<n*i.size
      ·left
       rw[List.append_assoc,List.getElem?_append_left (by rw[hxl];exact hj1),List.getElem?_take,if_pos hj1,Array.getElem?_toList]
      ·by_cases hj2:j<n*i.size+elem.length
       ·right
        refine⟨by omega,hfit,?_⟩;rw[List.append_assoc,List.getElem?_append_right (by rw[hxl];omega),hxl,List.getElem?_append_left (by omega)]
       ·left
        rw[List.getElem?_append_right (by rw[List.length_append,hxl];omega),List.length_append,hxl,List.getElem?_drop,Array.getElem?_toList];congr 1;omega
    ·exact⟨cc,by rw[setRow_other w g b _ hbe];exact hcc,rfl,fun _ _=>.inl rfl⟩
  ·have holds:∀j u,xs[j]?=some u->w.cell? ((⟨g,0,none⟩:Addr).add j)=some u:=hown.cells (g:=g) rfl
   have hr:=run_append_grow (P:=P) w t ty e i z ht hi hz ⟨g,0,none⟩ n c xs hown.1 holds ⟨E,0,none⟩ 1 c1 elem hl hnews (by omega) (by omega) (growslice_fits (by omega) hbytes);have hgr:=grown c (by omega);exact⟨_,_,_,hr,hgr.1,.of_grown hgr.2,(zb1 hgr.2).mono hbase⟩
end
def AppS (n0 lo X:Nat)(st:Value->Array Value)(v0:Value)(e:TypeId)(sz n:Nat)(xs:List Value)(B:World->Prop)(last:Nat)(w:World)(L:Nat->Bool)(W:World):Prop:=
 Below n0 w W/\lo<=W.heap.size/\B W/\(L last=false->Bl W X 89 (st v0))/\(L last=true->∃a c,Bl W X 89 (st (.slice a n c))/\W.ownsRow lo e sz (.slice a n c) n xs)
theorem AppS.next {n0 lo X:Nat}{st:Value->Array Value}{v0:Value}{e:TypeId}{sz n:Nat}{xs:List Value}{B:World->Prop}{last:Nat}{w:World}{L:Nat->Bool}{W W':World}(h:AppS n0 lo X st v0 e sz n xs B last w L W)(i:Nat)(hi:i≠last)(hl:L last=false)(hb:Below lo W W')(hn:n0<=lo)(hX:X<lo)(hB:∀W W',Below lo W W'->B W->B W'):AppS n0 lo X st v0 e sz n xs B last w (fun k=>if k=i then true else L k) W':=by
 obtain⟨h1,h2,h3,h4,h5⟩:=h;refine⟨h1.trans (hb.mono hn),Nat.le_trans h2 hb.size,hB _ _ hb h3,fun _=>?_,fun h=>?_⟩
 ·have:=h4 hl
  unfold Bl at this ⊢;rw[hb.block X hX];exact this
 ·dsimp only at h
  rw[if_neg (Ne.symm hi),hl] at h;cases h
theorem AppS.same {n0 lo X:Nat}{st:Value->Array Value}{v0:Value}{e:TypeId}{sz n:Nat}{xs:List Value}{B:World->Prop}{last:Nat}{w:World}{L:Nat->Bool}{W:World}(h:AppS n0 lo X st v0 e sz n xs B last w L W)(i:Nat)(hi:i≠last):AppS n0 lo X st v0 e sz n xs B last w (fun k=>if k=i then true else L k) W:=by
 obtain⟨h1,h2,h3,h4,h5⟩:=h;have e:(if last=i then true else L last)=L last:=if_neg (Ne.symm hi);exact⟨h1,h2,h3,fun h=>h4 (e.symm.trans h),fun h=>h5 (e.symm.trans h)⟩
theorem RK.low {lo k X o:Nat}{e:TypeId}{elem:List Value}{W:World}(hX:X<lo)(u:Value):RK lo e k elem W (W.setCell ⟨X,o,none⟩ u):=
 ⟨by simp,fun b c hb h=>⟨c,by rw[heap_setCell_other _ _ _ _ (by show b≠X;omega)];exact h,rfl,fun _ _=>.inl rfl⟩⟩
theorem zay {W:World}{b:Nat}{t:TypeId}{o0 o1 o2 o3 o4 o5 o6 o7:Value}(h:Bl W b t #[o0,o1,o2,o3,o4,o5,o6,o7])(v0 v1 v2 v3 v4 v5 v6 v7:Value) :
  Bl ((((((((W.setCell ⟨b,0,none⟩ v0).setCell ⟨b,1,none⟩ v1).setCell ⟨b,2,none⟩ v2).setCell ⟨b,3,none⟩ v3).setCell ⟨b,4,none⟩ v4).setCell ⟨b,5,none⟩ v5).setCell ⟨b,6,none⟩ v6).setCell ⟨b,7,none⟩ v7) b t #[v0,v1,v2,v3,v4,v5,v6,v7]:=by
 have q0:Bl (W.setCell ⟨b,0,none⟩ v0) b t #[v0,o1,o2,o3,o4,o5,o6,o7]:=Bl.put h v0;have q1:Bl _ b t #[v0,v1,o2,o3,o4,o5,o6,o7]:=Bl.put (i:=1) q0 v1;have q2:Bl _ b t #[v0,v1,v2,o3,o4,o5,o6,o7]:=Bl.put (i:=2) q1 v2;have q3:Bl _ b t #[v0,v1,v2,v3,o4,o5,o6,o7]:=Bl.put (i:=3) q2 v3;have q4:Bl _ b t #[v0,v1,v2,v3,v4,o5,o6,o7]:=Bl.put (i:=4) q3 v4;have q5:Bl _ b t #[v0,v1,v2,v3,v4,v5,o6,o7]:=Bl.put (i:=5) q4 v5;have q6:Bl _ b t #[v0,v1,v2,v3,v4,v5,v6,o7]:=Bl.put (i:=6) q5 v6;exact(Bl.put (i:=7) q6 v7:Bl _ b t #[v0,v1,v2,v3,v4,v5,v6,v7])
theorem zad {W:World}{b:Nat}{t:TypeId}{o0 o1 o2 o3 o4 o5 o6 o7:Value}(h:Bl W b t #[o0,o1,o2,o3,o4,o5,o6,o7]) :
  (W.cell? ⟨b,0,none⟩=some o0/\W.cell? ⟨b,1,none⟩=some o1/\W.cell? ⟨b,2,none⟩=some o2/\W.cell? ⟨b,3,none⟩=some o3/\W.cell? ⟨b,4,none⟩=some o4/\W.cell? ⟨b,5,none⟩=some o5/\W.cell? ⟨b,6,none⟩=some o6/\W.cell? ⟨b,7,none⟩=some o7)/\(∀o,W.frozen? ⟨b,o,none⟩=false)/\b<W.heap.size:=
 ⟨⟨h.cell rfl,h.cell rfl,h.cell rfl,h.cell rfl,h.cell rfl,h.cell rfl,h.cell rfl,h.cell rfl⟩,h.free,h.lt⟩
theorem zbh {n:Nat}{w W:World}{b:Nat}(h:Below n w W)(hb:n<=b)(v0 v1 v2 v3 v4 v5 v6 v7:Value) :
  Below n w ((((((((W.setCell ⟨b,0,none⟩ v0).setCell ⟨b,1,none⟩ v1).setCell ⟨b,2,none⟩ v2).setCell ⟨b,3,none⟩ v3).setCell ⟨b,4,none⟩ v4).setCell ⟨b,5,none⟩ v5).setCell ⟨b,6,none⟩ v6).setCell ⟨b,7,none⟩ v7):=
 (((((((h.setCell (p:=⟨b,0,none⟩) hb v0).setCell (p:=⟨b,1,none⟩) hb v1).setCell (p:=⟨b,2,none⟩) hb v2).setCell (p:=⟨b,3,none⟩) hb v3).setCell (p:=⟨b,4,none⟩) hb v4).setCell (p:=⟨b,5,none⟩) hb v5).setCell (p:=⟨b,6,none⟩) hb v6).setCell (p:=⟨b,7,none⟩) hb v7
theorem zrp {W:World}{base:Nat}{e:TypeId}{size n g:Nat}{v:Value}{xs:List Value}(h:W.ownsRow base e size v n xs)(hg:g<base)(v0 v1 v2 v3 v4 v5 v6 v7:Value) :
  ((((((((W.setCell ⟨g,0,none⟩ v0).setCell ⟨g,1,none⟩ v1).setCell ⟨g,2,none⟩ v2).setCell ⟨g,3,none⟩ v3).setCell ⟨g,4,none⟩ v4).setCell ⟨g,5,none⟩ v5).setCell ⟨g,6,none⟩ v6).setCell ⟨g,7,none⟩ v7).ownsRow base e size v n xs:=
 zaw (zaw (zaw (zaw (zaw (zaw (zaw (zaw h hg _ _) hg _ _) hg _ _) hg _ _) hg _ _) hg _ _) hg _ _) hg _ _
end
section
open Go.RowKit
theorem zz2 {w W:World}{n0 m:Nat}{a:Option Addr}{news:List Value}(h:m=0∨∃b off,a=some ⟨b,off,none⟩/\∀j u,news[j]?=some u->w.cell? ⟨b,off+j,none⟩=some u)(hn:n0=w.heap.size)(hb:Below n0 w W):m=0∨∃b off,a=some ⟨b,off,none⟩/\∀j u,news[j]?=some u->W.cell? ⟨b,off+j,none⟩=some u:=by
 subst hn;rcases h with h|⟨b,off,rfl,h⟩
 ·exact .inl h
 ·exact .inr ⟨b,off,rfl,fun j u hu=>by
   have:=h j u hu;rw[(bcell hb).1 _ _ (zai this)];exact this⟩
theorem oneS {X n0:Nat}{c0 c1 c2 c3 c4 c5 c6:Value}{wr W:World}(hX:Bl wr X 73 #[c0,c1,c2,c3,c4,c5,c6])(hn:n0=wr.heap.size)(hb:Below n0 wr W) :
  W.cell? ⟨X,0,none⟩=some c0/\W.cell? ⟨X,1,none⟩=some c1/\W.cell? ⟨X,2,none⟩=some c2/\W.cell? ⟨X,3,none⟩=some c3/\W.cell? ⟨X,4,none⟩=some c4/\W.cell? ⟨X,5,none⟩=some c5/\W.cell? ⟨X,6,none⟩=some c6:=by
 subst hn;have h:=hX.below hb;exact⟨h.cell rfl,h.cell rfl,h.cell rfl,h.cell rfl,h.cell rfl,h.cell rfl,h.cell rfl⟩
def zeroV:Array Value:=#[.slice none 0 0,.int .i64 0,.slice none 0 0,.slice none 0 0,.slice none 0 0,.int .i64 0,.bool false,.bool false]
theorem Bl.keep {w w':World}{b lo:Nat}{t:TypeId}{cs:Array Value}(h:Bl w b t cs)(hb:Below lo w w')(hl:b<lo):Bl w' b t cs:=by
 unfold Bl at h ⊢;rw[hb.block b hl];exact h
section
variable (lo X:Nat) (v0 ev:Value) (n:Nat) (cs elem:List Value)
def AddT:Nat->Value->World->Prop
 |0,v,W=>∃B,v=.slice (some ⟨B,0,none⟩) 0 0/\W.ownsRow lo 73 7 v 0 []
 |1,v,_=>v=.pointer (some ⟨X,2,none⟩)
 |2,v,_=>v=.pointer (some ⟨X,3,none⟩)
 |3,v,_=>v=v0
 |4,v,W=>∃a c,v=.slice a n c/\W.ownsRow lo 73 7 v n cs
 |5,v,_=>v=ev
 |6,v,W=>∃E,v=.slice (some ⟨E,0,none⟩) 1 1/\W.ownsRow lo 73 7 v 1 elem
 |7,v,W=>∃a c,v=.slice a (n+1) c/\W.ownsRow lo 73 7 v (n+1) (cs++elem)
 |8,v,_=>v=.pointer (some ⟨X,2,none⟩)
 |9,v,_=>v=.pointer (some ⟨X,3,none⟩)
 |_,_,_=>True
theorem zwk (hcs:cs.length=n*7)(_he:elem.length=7)(k:Nat)(v:Value)(w w':World)(h:RK lo 73 (n*7) elem w w')(hT:AddT lo X v0 ev n cs elem k v w):AddT lo X v0 ev n cs elem k v w':=by
 match k,hT with
 |0,⟨B,e,hT⟩=>exact⟨B,e,h.row hT (.inl (by omega))⟩
 |1,hT=>exact hT
 |2,hT=>exact hT
 |3,hT=>exact hT
 |4,⟨a,c,e,hT⟩=>exact⟨a,c,e,h.row hT (.inl (Nat.le_refl _))⟩
 |5,hT=>exact hT
 |6,⟨E,e,hT⟩=>
  refine⟨E,e,h.row hT ?_⟩;rcases Nat.eq_zero_or_pos n with h0|h0
  ·exact .inr ⟨[],rfl,by subst h0;rfl⟩
  ·exact .inl (by omega)
 |7,⟨a,c,e,hT⟩=>exact⟨a,c,e,h.row hT (.inr ⟨cs,rfl,hcs⟩)⟩
 |8,hT=>exact hT
 |9,hT=>exact hT
 |k+10,_=>trivial
end
theorem zz3 (R:RC)(x:SV)(w:World)(cs:List Value)(nd:PN)(ka:Option Addr)(kn kc:Nat)(hO:w.ownsRow R.base 73 7 (.slice x.na x.nn x.nc) x.nn cs)(hc1:∀u ∈ cs,u.oneCell'=true)(hm:x.nn<=100000000) :
  Calls Tryz.prog 81 #[x.v R,ndV nd (.slice ka kn kc)] w fun e w'=>∃na' nc',e=.returned (.tuple #[({ x with na:=na',nn:=x.nn+1,nc:=nc' }:SV).v R,.int .i64 (x.nn:Int)])/\w'.ownsRow w.heap.size 73 7 (.slice na' (x.nn+1) nc') (x.nn+1) (cs++nodeC (nd,.slice ka kn kc))/\Below w.heap.size w w':=by
 obtain⟨la,lc,i,ra,rn,rc,na,nn,nc,ca,cn,cc,bad,dp⟩:=x;unfold SV.v;dsimp only at hO hm ⊢;generalize R.T.length=L;generalize R.one=one;have hnv:ndV nd (.slice ka kn kc)=.agg #[.int .i64 nd.op,.slice ka kn kc,.int .i64 nd.rule,.int .u64 nd.s0,.int .u64 nd.s1,.int .u64 nd.s2,.int .u64 nd.s3]:=rfl;have hnc:nodeC (nd,.slice ka kn kc)=[.int .i64 nd.op,.slice ka kn kc,.int .i64 nd.rule,.int .u64 nd.s0,.int .u64 nd.s1,.int .u64 nd.s2,.int .u64 nd.s3]:=rfl;rw[hnv,hnc];obtain⟨op,hop⟩:∃y,nd.op=y:=⟨_,rfl⟩;obtain⟨ru,hru⟩:∃y,nd.rule=y:=⟨_,rfl⟩;obtain⟨s0,hs0⟩:∃y,nd.s0=y:=⟨_,rfl⟩;obtain⟨s1,hs1⟩:∃y,nd.s1=y:=⟨_,rfl⟩;obtain⟨s2,hs2⟩:∃y,nd.s2=y:=⟨_,rfl⟩;obtain⟨s3,hs3⟩:∃y,nd.s3=y:=⟨_,rfl⟩;rw[hop,hru,hs0,hs1,hs2,hs3];clear hnv hnc hop hru hs0 hs1 hs2 hs3;have hsrc:=(CellsAt.of_own hO).src;have hln:=hO.1;obtain⟨ie,hie,hze0,hze1,hze2⟩:=info_parts zik;obtain⟨W0,hW0⟩:∃W0,((w.alloc (.cells #[.slice la L lc,.int .i64 i,.slice ra rn rc,.slice na nn nc,.slice ca cn cc,.int .i64 bad,.bool dp,.bool one] 89)).alloc (.cells #[.int .i64 op,.slice ka kn kc,.int .i64 ru,.int .u64 s0,.int .u64 s1,.int .u64 s2,.int .u64 s3] 73)).alloc (.cells zeroV 89)=W0:=⟨_,rfl⟩;have hn0:W0.heap.size=w.heap.size+3:=by rw[<-hW0];simp
 have hb0:Below w.heap.size w W0:=by rw[<-hW0];exact zac (zac (zac (Below.refl _ _) rfl _) rfl _) rfl _
 have hX:Bl W0 w.heap.size 89 #[.slice la L lc,.int .i64 i,.slice ra rn rc,.slice na nn nc,.slice ca cn cc,.int .i64 bad,.bool dp,.bool one]:=by rw[<-hW0];repeat (first|(refine Bl.new' ?_;simp;done)|refine Bl.past ?_)
 have hY:Bl W0 (w.heap.size+1) 73 #[.int .i64 op,.slice ka kn kc,.int .i64 ru,.int .u64 s0,.int .u64 s1,.int .u64 s2,.int .u64 s3]:=by rw[<-hW0];repeat (first|(refine Bl.new' ?_;simp;done)|refine Bl.past ?_)
 have hZ:Bl W0 (w.heap.size+2) 89 zeroV:=by rw[<-hW0];repeat (first|(refine Bl.new' ?_;simp;done)|refine Bl.past ?_)
 have hln:=hln;obtain⟨lo,hlo⟩:∃lo,W0.heap.size=lo:=⟨_,rfl⟩;have hX3:w.heap.size<lo:=by omega
 have hY3:w.heap.size+1<lo:=by omega
 have hZ3:w.heap.size+2<lo:=by omega
 have HB0:=Lib.hid hb0;have HW0:=Lib.hid hW0;clear hW0;go_enter Tryz.func81,Tryz.ntmps81
 go_wp2_with fail
 unfold zeroV at HW0;rw[HW0.out];obtain⟨st,hst⟩:∃st:Value->Array Value,st=fun v=>#[.slice la L lc,.int .i64 i,.slice ra rn rc,v,.slice ca cn cc,.int .i64 bad,.bool dp,.bool one]:=⟨_,rfl⟩
 obtain⟨elem,hel⟩:∃l:List Value,l=[.int .i64 op,.slice ka kn kc,.int .i64 ru,.int .u64 s0,.int .u64 s1,.int .u64 s2,.int .u64 s3]:=⟨_,rfl⟩;have hell:elem.length=7:=by rw[hel];rfl
 have hBk:∀W W',Below lo W W'->(Bl W (w.heap.size+1) 73 elem.toArray/\Bl W (w.heap.size+2) 89 zeroV)->(Bl W' (w.heap.size+1) 73 elem.toArray/\Bl W' (w.heap.size+2) 89 zeroV):=fun W W' hb h=>⟨h.1.keep hb hY3,h.2.keep hb hZ3⟩
 have hn0:w.heap.size<=lo:=by omega
 refine ze0 (by kernel_rfl) [2,3] (AddT lo w.heap.size (.slice na nn nc) (.agg #[.int .i64 op,.slice ka kn kc,.int .i64 ru,.int .u64 s0,.int .u64 s1,.int .u64 s2,.int .u64 s3]) nn cs elem) (RK lo 73 (nn*7) elem) (AppS w.heap.size lo w.heap.size st (.slice na nn nc) 73 7 (nn+1) (cs++elem) (fun W=>Bl W (w.heap.size+1) 73 elem.toArray/\Bl W (w.heap.size+2) 89 zeroV) 10 w) (by kernel_rfl) (by kernel_rfl) (by kernel_rfl) (by kernel_rfl) (zwk _ _ _ _ _ _ _ hln hell) ?start ?steps ?done
 case start=>
  refine⟨HB0.out.trans (zcz W0 |>.mono (by omega)),by show lo<=W0.heap.size;omega,⟨by rw[hel];exact hY.drew,hZ.drew⟩,fun _=>by rw[hst];exact hX.drew,fun h=>by cases h⟩
 case steps=>
  refine⟨?_,?_,?_,?_,?_,?_,?_,?_,?_,?_,?_,trivial⟩
  ·intro L a W hL hj hS hk hd
   have e10:L 10=false:=hj 10 (by kernel_rfl);clear hk hd hj;refine zao rfl ?_;have hb:=(zaa W (.cells #[] 73)).mono hS.2.1;exact zec (.slice (some ⟨W.heap.size,0,none⟩) 0 0) (w':=W.alloc (.cells #[] 73)) (by generalize a.eval=ρ at *;simp[go_sem]) ⟨W.heap.size,rfl,⟨rfl,.inr ⟨W.heap.size,0,#[],rfl,hS.2.1,heap_alloc_new W _,Nat.le_refl _,Nat.zero_le _,rfl,rfl⟩⟩⟩ (.of_grown (World.grownBy_alloc W _ _)) (hS.next 0 (by decide) e10 hb hn0 hX3 hBk)
  ·intro L a W hL hj hS hk hd
   have p1:a.eval (.tmp 2)=.pointer (some ⟨w.heap.size,0,none⟩):=hk 2 (by simp);clear hk hd hj;refine zao rfl ?_;exact zba (.pointer (some ⟨w.heap.size,2,none⟩)) (by generalize a.eval=ρ at *;simp[go_sem,p1]) rfl .refl (hS.same 1 (by decide))
  ·intro L a W hL hj hS hk hd
   have p1:a.eval (.tmp 7)=.pointer (some ⟨w.heap.size,2,none⟩):=hd 1 7 (by kernel_rfl);clear hk hd hj;refine zao rfl ?_;exact zba (.pointer (some ⟨w.heap.size,3,none⟩)) (by generalize a.eval=ρ at *;simp[go_sem,p1]) rfl .refl (hS.same 2 (by decide))
  ·intro L a W hL hj hS hk hd
   have e10:L 10=false:=hj 10 (by kernel_rfl);have p1:a.eval (.tmp 8)=.pointer (some ⟨w.heap.size,3,none⟩):=hd 2 8 (by kernel_rfl);have c0:W.cell? ⟨w.heap.size,3,none⟩=some (.slice na nn nc):=by
    have:=hS.2.2.2.1 e10;rw[hst] at this;exact this.cell rfl
   clear hk hd hj;refine zao rfl ?_;exact zba (.slice na nn nc) (by generalize a.eval=ρ at *;simp[go_sem,p1,c0]) rfl .refl (hS.same 3 (by decide))
  ·intro L a W hL hj hS hk hd
   have e10:L 10=false:=hj 10 (by kernel_rfl);obtain⟨B,p1,hB⟩:=hd 0 6 (by kernel_rfl);have p2:a.eval (.tmp 9)=.slice na nn nc:=hd 3 9 (by kernel_rfl);rw[p1] at hB;clear hk hd hj;refine zao rfl ?_;obtain⟨a',c',w',hr,h1,h2⟩:=zjf (P:=Tryz.prog) W lo 23 23 73 ie _ 7 72 Tryz.underlying23 hie hze0 hze1 hze2 rfl B hB na nn nc cs hln (zz2 hsrc rfl hS.1) hc1 (by unfold maxLen;omega) (by omega) hS.2.1;exact zeb (.tmp 6) (.tmp 9) 23 rfl p1 p2 hr ⟨a',c',rfl,h1⟩ (.of_grown h2) (hS.next 4 (by decide) e10 ((zb1 h2).mono hS.2.1) hn0 hX3 hBk)
  ·intro L a W hL hj hS hk hd
   have p1:a.eval (.tmp 3)=.pointer (some ⟨w.heap.size+1,0,none⟩):=hk 3 (by simp);have hYW:=hS.2.2.1.1;rw[hel] at hYW;obtain⟨y0,y1,y2,y3,y4,y5,y6⟩:=oneS hYW rfl (Below.refl _ _);clear hk hd hj;refine zao rfl ?_;exact zba (.agg #[.int .i64 op,.slice ka kn kc,.int .i64 ru,.int .u64 s0,.int .u64 s1,.int .u64 s2,.int .u64 s3]) (by generalize a.eval=ρ at *;simp[go_sem,p1,y0,y1,y2,y3,y4,y5,y6]) rfl .refl (hS.same 5 (by decide))
  ·intro L a W hL hj hS hk hd
   have e10:L 10=false:=hj 10 (by kernel_rfl);have p1:a.eval (.tmp 11)=.agg #[.int .i64 op,.slice ka kn kc,.int .i64 ru,.int .u64 s0,.int .u64 s1,.int .u64 s2,.int .u64 s3]:=hd 5 11 (by kernel_rfl);clear hk hd hj;refine zao rfl ?_;have hb:=(zaa W (.cells #[.int .i64 op,.slice ka kn kc,.int .i64 ru,.int .u64 s0,.int .u64 s1,.int .u64 s2,.int .u64 s3] 73)).mono hS.2.1;exact zec (.slice (some ⟨W.heap.size,0,none⟩) 1 1) (w':=W.alloc (.cells #[.int .i64 op,.slice ka kn kc,.int .i64 ru,.int .u64 s0,.int .u64 s1,.int .u64 s2,.int .u64 s3] 73)) (by generalize a.eval=ρ at *;simp[go_sem,p1]) ⟨W.heap.size,rfl,⟨hell,.inr ⟨W.heap.size,1,_,rfl,hS.2.1,heap_alloc_new W _,Nat.le_refl _,by unfold maxLen;omega,rfl,by rw[hel];rfl⟩⟩⟩ (.of_grown (World.grownBy_alloc W _ _)) (hS.next 6 (by decide) e10 hb hn0 hX3 hBk)
  ·intro L a W hL hj hS hk hd
   have e10:L 10=false:=hj 10 (by kernel_rfl);obtain⟨a4,c4,p1,h4⟩:=hd 4 10 (by kernel_rfl);obtain⟨E,p2,hE⟩:=hd 6 12 (by kernel_rfl);rw[p1] at h4;rw[p2] at hE;clear hk hd hj;refine zao rfl ?_;obtain⟨a',c',w',hr,h1,h2,h3⟩:=zhg (P:=Tryz.prog) W lo 23 23 73 ie _ 7 72 Tryz.underlying23 hie hze0 hze1 hze2 rfl a4 nn c4 cs h4 E 1 elem hE (by rw[hel];simp[Value.oneCell']) (by unfold maxLen;omega) (by omega) hS.2.1;exact zeb (.tmp 10) (.tmp 12) 23 rfl p1 p2 hr ⟨a',c',rfl,h1⟩ h2 (hS.next 7 (by decide) e10 h3 hn0 hX3 hBk)
  ·intro L a W hL hj hS hk hd
   have p1:a.eval (.tmp 2)=.pointer (some ⟨w.heap.size,0,none⟩):=hk 2 (by simp);clear hk hd hj;refine zao rfl ?_;exact zba (.pointer (some ⟨w.heap.size,2,none⟩)) (by generalize a.eval=ρ at *;simp[go_sem,p1]) rfl .refl (hS.same 8 (by decide))
  ·intro L a W hL hj hS hk hd
   have p1:a.eval (.tmp 14)=.pointer (some ⟨w.heap.size,2,none⟩):=hd 8 14 (by kernel_rfl);clear hk hd hj;refine zao rfl ?_;exact zba (.pointer (some ⟨w.heap.size,3,none⟩)) (by generalize a.eval=ρ at *;simp[go_sem,p1]) rfl .refl (hS.same 9 (by decide))
  ·intro L a W hL hj hS hk hd
   have p1:a.eval (.tmp 15)=.pointer (some ⟨w.heap.size,3,none⟩):=hd 9 15 (by kernel_rfl);obtain⟨a7,c7,p2,h7⟩:=hd 7 13 (by kernel_rfl);rw[p2] at h7;clear hk hd hj;refine zao rfl ?_;have hXW:=hS.2.2.2.1 hL;have hX5:=hXW.put (i:=3) (.slice a7 (nn+1) c7);have hrow:(W.setCell ⟨w.heap.size,3,none⟩ (.slice a7 (nn+1) c7)).ownsRow lo 73 7 (.slice a7 (nn+1) c7) (nn+1) (cs++elem):=zaw h7 hX3 _ _;have hbk2:Bl (W.setCell ⟨w.heap.size,3,none⟩ (.slice a7 (nn+1) c7)) (w.heap.size+1) 73 elem.toArray/\Bl (W.setCell ⟨w.heap.size,3,none⟩ (.slice a7 (nn+1) c7)) (w.heap.size+2) 89 zeroV:=⟨hS.2.2.1.1.other (by omega) _,hS.2.2.1.2.other (by omega) _⟩;refine zoz (w':=W.setCell ⟨w.heap.size,3,none⟩ (.slice a7 (nn+1) c7)) ?_ trivial (.low hX3 _) ⟨hS.1.setCell (p:=⟨w.heap.size,3,none⟩) (Nat.le_refl _) _,by simpa using hS.2.1,hbk2,fun h=>by simp at h,fun _=>⟨a7,c7,?_,hrow⟩⟩
   ·rw[hst] at hXW
    have c3:W.cell? ⟨w.heap.size,3,none⟩=some (.slice na nn nc):=hXW.cell rfl;have cf:=hXW.free;clear hS hX5 hrow hbk2;generalize a.eval=ρ at *;simp[go_sem,p1,p2,c3,cf]
   ·rw[hst] at hX5 ⊢
    exact hX5
 case done=>
  intro vals w3 hv hS;obtain⟨L2,hL2,hS⟩:=hS;obtain⟨a7,c7,hX7,h7⟩:=hS.2.2.2.2 (hL2 10 (by simp));rw[hst] at hX7;have hb3:=hS.1;have hZ7:=hS.2.2.1.2;clear hS hv;have x0:w3.cell? ⟨w.heap.size,0,none⟩=some (.slice la L lc):=hX7.cell rfl;have x1:w3.cell? ⟨w.heap.size,1,none⟩=some (.int .i64 i):=hX7.cell rfl;have x2:w3.cell? ⟨w.heap.size,2,none⟩=some (.slice ra rn rc):=hX7.cell rfl;have x3:w3.cell? ⟨w.heap.size,3,none⟩=some (.slice a7 (nn+1) c7):=hX7.cell rfl;have x4:w3.cell? ⟨w.heap.size,4,none⟩=some (.slice ca cn cc):=hX7.cell rfl;have x5:w3.cell? ⟨w.heap.size,5,none⟩=some (.int .i64 bad):=hX7.cell rfl;have x6:w3.cell? ⟨w.heap.size,6,none⟩=some (.bool dp):=hX7.cell rfl;have x7:w3.cell? ⟨w.heap.size,7,none⟩=some (.bool one):=hX7.cell rfl;unfold zeroV at hZ7;have z0:w3.cell? ⟨w.heap.size+2,0,none⟩=some (.slice none 0 0):=hZ7.cell rfl;have z1:w3.cell? ⟨w.heap.size+2,1,none⟩=some (.int .i64 0):=hZ7.cell rfl;have z2:w3.cell? ⟨w.heap.size+2,2,none⟩=some (.slice none 0 0):=hZ7.cell rfl;have z3:w3.cell? ⟨w.heap.size+2,3,none⟩=some (.slice none 0 0):=hZ7.cell rfl;have z4:w3.cell? ⟨w.heap.size+2,4,none⟩=some (.slice none 0 0):=hZ7.cell rfl;have z5:w3.cell? ⟨w.heap.size+2,5,none⟩=some (.int .i64 0):=hZ7.cell rfl;have z6:w3.cell? ⟨w.heap.size+2,6,none⟩=some (.bool false):=hZ7.cell rfl;have z7:w3.cell? ⟨w.heap.size+2,7,none⟩=some (.bool false):=hZ7.cell rfl;have zf:=hZ7.free;have v1:IntKind.i64.wrap (((nn+1:Nat):Int)-1)=(nn:Int):=by rw[show((nn+1:Nat):Int)-1=(nn:Int) by omega];exact IntWalk.i64_in _ (by omega)
  have v2:IntKind.i64.wrap ((nn:Int)+1-1)=(nn:Int):=by rw[show(nn:Int)+1-1=(nn:Int) by omega];exact IntWalk.i64_in _ (by omega)
  have HX7:=Lib.hid hX7;have HZ7:=Lib.hid hZ7;have HB3:=Lib.hid hb3;have H7:=Lib.hid h7;have HEL:=Lib.hid hel;clear hX7 hZ7 hb3 h7 hL2 hBk hst hel hX hY hZ hO hsrc hln hc1;simp only[fill,if_true,Act.put,List.setIfInBounds_toArray,List.set_cons_zero,List.set_cons_succ,Nat.zero_add,Nat.reduceAdd];obtain⟨Z,hZe⟩:∃Z,w.heap.size+2=Z:=⟨_,rfl⟩;have hZe2:w.heap.size+1+1=Z:=hZe;have hZn:w.heap.size<=Z:=by omega
  have hZX:¬w.heap.size=Z:=by omega
  rw[hZe] at z0 z1 z2 z3 z4 z5 z6 z7 hZ3 HZ7;simp only[hZe] at zf;rw[hZe2];clear hZe hZe2;go_wp2;have hZZ:w.heap.size<w3.heap.size:=HX7.out.lt;have hZZ2:Z<w3.heap.size:=HZ7.out.lt;have v3:IntKind.i64.wrap (nn:Int)=(nn:Int):=IntWalk.i64_in _ (by omega)
  go_region_with fail
  all_goals
   go_wp2;clear x0 x1 x2 x3 x4 x5 x6 x7 z0 z1 z2 z3 z4 z5 z6 z7 zf;have hS8:=zay HZ7.out (.slice la L lc) (.int .i64 i) (.slice ra rn rc) (.slice a7 (nn+1) c7) (.slice ca cn cc) (.int .i64 bad) (.bool dp) (.bool one);obtain⟨⟨c0,c1,c2,c3,c4,c5,c6,c7'⟩,-,-⟩:=zad hS8;refine bodyPost_ret (v:=.tuple #[.agg #[.slice la L lc,.int .i64 i,.slice ra rn rc,.slice a7 (nn+1) c7,.slice ca cn cc,.int .i64 bad,.bool dp,.bool one],.int .i64 (nn:Int)]) (by simp[results,Tryz.results81,go_sem,c0,c1,c2,c3,c4,c5,c6,c7']) rfl ?_;refine⟨a7,c7,rfl,?_,?_⟩
   ·have h8:=H7.out
    rw[HEL.out] at h8;refine za2 (base:=lo) ?_ hn0
    first
     |(with_reducible exact zrp h8 hZ3 _ _ _ _ _ _ _ _)
     |(with_reducible refine zab ?_ (zcz _));(with_reducible exact zrp h8 hZ3 _ _ _ _ _ _ _ _)
   ·first
     |(with_reducible exact zbh HB3.out hZn _ _ _ _ _ _ _ _)
     |(with_reducible refine Below.drew ?_);(with_reducible exact zbh HB3.out hZn _ _ _ _ _ _ _ _)
end
section
open Go.RowKit
section
variable {R:RC} {rs:List (List Nat × Nat × Int)} {ts a:List Tok} {f g:MF} {x:SV} {w W W':World} {dp:Bool} {o:PO} {e:Ending}
theorem zp0 {ns:List PN}{qs:List Value}{base:Nat}{v:Value}(h:NRow base v ns qs W):∀u ∈ zbs (ns.zip qs),u.oneCell'=true:=
 ztb fun i n q a b=>(zag (h.2.2 i n q a b)).elim fun a h=>h.elim fun c h=>⟨a,_,c,h⟩
theorem zf3 {qs:List Value}(h:RSt R rs ts f qs x W)(nd:PN)(ka:Option Addr)(kc:Nat)(hk:W.ownsRow R.base 3 1 (.slice ka nd.kids.length kc) nd.kids.length (intsV nd.kids))(hm:f.nodes.length<=100000000)(hbase:R.base<=W.heap.size) :
  Calls Tryz.prog 81 #[x.v R,ndV nd (.slice ka nd.kids.length kc)] W fun e w'=>Below W.heap.size W w'/\∃x':SV,e=.returned (.tuple #[x'.v R,.int .i64 (lastI (addN f nd))])/\RSt R rs ts (addN f nd) (qs++[.slice ka nd.kids.length kc]) x' w':=by
 obtain⟨h1,h2,h3,h4,h5,h6,h7,h8,h9,h10,h11⟩:=h;have hO:=h9.2.1;rw[<-h7] at hO;refine(zz3 R x W (zbs (f.nodes.zip qs)) nd ka nd.kids.length kc hO (zp0 h9) (by omega)).mono ?_;rintro e w' ⟨na',nc',rfl,ho,hb⟩;refine⟨hb,{ x with na:=na',nn:=x.nn+1,nc:=nc' },?_,h1.below hb,h2,h3,h4,h5,h6,?_,h8,?_,zab h10 hb,zab h11 hb⟩
 ·have e1:lastI (addN f nd)=(x.nn:Int):=by
   show(((f.nodes++[nd]).length:Nat):Int)-1=_;rw[List.length_append,List.length_singleton,h7];omega
  rw[e1]
 ·show x.nn+1=(f.nodes++[nd]).length
  rw[List.length_append,List.length_singleton,h7]
 ·rw[h7] at ho ⊢
  exact h9.snoc hk (za2 ho hbase) (fun sz n u xs hu=>zab hu hb)
end
def RRes (R:RC)(k:Int)(Q:SV->World->Prop)(w:World)(e:Ending)(w':World):Prop:=
 ∃(la:Option Addr) (lc:Nat) (i:Int) (ra:Option Addr) (rn rc:Nat) (na:Option Addr) (nn nc:Nat) (ca:Option Addr) (cn cc:Nat) (bad:Int) (dp:Bool),
  e=.returned (.tuple #[.agg #[.slice la R.T.length lc,.int .i64 i,.slice ra rn rc,.slice na nn nc,.slice ca cn cc,.int .i64 bad,.bool dp,.bool R.one],.int .i64 k])/\Below w.heap.size w w'/\Q ⟨la,lc,i,ra,rn,rc,na,nn,nc,ca,cn,cc,bad,dp⟩ w'
theorem RRes.of {R:RC}{k:Int}{Q:SV->World->Prop}{w w':World}{e:Ending}(hb:Below w.heap.size w w')(h:∃x:SV,e=.returned (.tuple #[x.v R,.int .i64 k])/\Q x w'):RRes R k Q w e w':=by
 obtain⟨⟨la,lc,i,ra,rn,rc,na,nn,nc,ca,cn,cc,bad,dp⟩,rfl,h⟩:=h;exact⟨la,lc,i,ra,rn,rc,na,nn,nc,ca,cn,cc,bad,dp,rfl,hb,h⟩
theorem RRes.mono {R:RC}{k:Int}{Q Q':SV->World->Prop}{w w':World}{e:Ending}(h:RRes R k Q w e w')(hq:∀x W,Q x W->Q' x W):RRes R k Q' w e w':=by
 obtain⟨la,lc,i,ra,rn,rc,na,nn,nc,ca,cn,cc,bad,dp,h1,h2,h3⟩:=h;exact⟨la,lc,i,ra,rn,rc,na,nn,nc,ca,cn,cc,bad,dp,h1,h2,hq _ _ h3⟩
theorem RSt.low {R:RC}{rs:List (List Nat × Nat × Int)}{ts:List Tok}{f:MF}{qs:List Value}{x:SV}{W:World}{b:Nat}(h:RSt R rs ts f qs x W){cs:Array Value}(hB:Bl W b 89 cs)(o:Nat)(u:Value):RSt R rs ts f qs x (W.setCell ⟨b,o,none⟩ u):=by
 obtain⟨h1,h2,h3,h4,h5,h6,h7,h8,h9,h10,h11⟩:=h;have st:∀ {base:Nat} {t:TypeId} {sz n:Nat} {v:Value} {xs:List Value},W.ownsRow base t sz v n xs->t≠89->(W.setCell ⟨b,o,none⟩ u).ownsRow base t sz v n xs:=fun h ht=>ownsRow_setCell_other h (a:=⟨b,o,none⟩) (zaq h hB ht) u
 exact⟨⟨st h1.1 (by decide),h1.2⟩,h2,h3,h4,h5,h6,h7,h8,⟨h9.1,st h9.2.1 (by decide),fun j n q e1 e2=>st (h9.2.2 j n q e1 e2) (by decide)⟩,st h10 (by decide),st h11 (by decide)⟩
theorem RF.low {R:RC}{rs:List (List Nat × Nat × Int)}{ts:List Tok}{f:MF}{qs:List Value}{lo:Nat}{x:SV}{W:World}{b:Nat}(h:RF R rs ts f qs lo x W){cs:Array Value}(hB:Bl W b 89 cs)(o:Nat)(u:Value):RF R rs ts f qs lo x (W.setCell ⟨b,o,none⟩ u):=by
 obtain⟨tq,h1,h2⟩:=h;exact⟨tq,h1.low hB o u,h2⟩
theorem RF.low8 {R:RC}{rs:List (List Nat × Nat × Int)}{ts:List Tok}{f:MF}{qs:List Value}{lo:Nat}{x:SV}{W:World}{b:Nat}(h:RF R rs ts f qs lo x W){cs:Array Value}(hB:Bl W b 89 cs)(v0 v1 v2 v3 v4 v5 v6 v7:Value) :
  RF R rs ts f qs lo x ((((((((W.setCell ⟨b,0,none⟩ v0).setCell ⟨b,1,none⟩ v1).setCell ⟨b,2,none⟩ v2).setCell ⟨b,3,none⟩ v3).setCell ⟨b,4,none⟩ v4).setCell ⟨b,5,none⟩ v5).setCell ⟨b,6,none⟩ v6).setCell ⟨b,7,none⟩ v7):=
 (((((((h.low hB 0 v0).low (hB.put v0) 1 v1).low ((hB.put v0).put v1) 2 v2).low (((hB.put v0).put v1).put v2) 3 v3).low ((((hB.put v0).put v1).put v2).put v3) 4 v4).low (((((hB.put v0).put v1).put v2).put v3).put v4) 5 v5).low ((((((hB.put v0).put v1).put v2).put v3).put v4).put v5) 6 v6).low (((((((hB.put v0).put v1).put v2).put v3).put v4).put v5).put v6) 7 v7
section
variable {R:RC} {rs:List (List Nat × Nat × Int)} {ts:List Tok} {f:MF} {qs:List Value} {lo:Nat} {w:World}
theorem zkw (la:Option Addr)(lc:Nat)(i:Int)(ra:Option Addr)(rn rc:Nat)(na:Option Addr)(nn nc:Nat)(ca:Option Addr)(cn cc:Nat)(bad:Int)(dp:Bool)(op:Int)(ka:Option Addr)(kn kc:Nat)(k:Int)(g:MF)(hkn:kn≠1)(hk2:kn<=1000000000)
  (hC:∀W,Below w.heap.size w W->Calls Tryz.prog 81 #[.agg #[.slice la R.T.length lc,.int .i64 i,.slice ra rn rc,.slice na nn nc,.slice ca cn cc,.int .i64 bad,.bool dp,.bool R.one],.agg #[.int .i64 (if kn=0 then 0 else op),(if kn=0 then .slice none 0 0 else .slice ka kn kc),.int .i64 0,.int .u64 0,.int .u64 0,.int .u64 0,.int .u64 0]] W (RRes R k (RF R rs ts g qs lo) W)) :
  Calls Tryz.prog 55 #[.agg #[.slice la R.T.length lc,.int .i64 i,.slice ra rn rc,.slice na nn nc,.slice ca cn cc,.int .i64 bad,.bool dp,.bool R.one],.int .i64 op,.slice ka kn kc] w (RRes R k (RF R rs ts g qs lo) w):=by
 have HC:=Lib.hid hC;clear hC;by_cases h0:kn=0
 ·subst h0
  rw[if_pos rfl,if_pos rfl] at HC;have hZ:∀o:Obj,Bl ((w.alloc o).alloc (.cells zeroV 89)) (w.heap.size+1) 89 zeroV:=fun o=>Bl.new' (by simp)
  have HZ:=Lib.hid hZ;clear hZ;go_enter Tryz.func55,Tryz.ntmps55
  go_wp2_with (go_at_call 81;(with_reducible refine(HC.out _ (zbo w _ _)).mono ?_);rintro e w2 ⟨la2,lc2,i2,ra2,rn2,rc2,na2,nn2,nc2,ca2,cn2,cc2,bad2,dp2,rfl,hb,hq⟩;have hB2:=(HZ.out _).below hb;obtain⟨⟨c0,c1,c2,c3,c4,c5,c6,c7⟩,cf,cl⟩:=zad hB2;have HB2:=Lib.hid hB2;have HBB:=Lib.hid ((zbo w _ _).trans (hb.mono (by simp;omega)));have HQ:=Lib.hid hq;clear hb hq hB2)
  clear c0 c1 c2 c3 c4 c5 c6 c7 cf;obtain⟨⟨c0,c1,c2,c3,c4,c5,c6,c7⟩,cf,-⟩:=zad (zay HB2.out (.slice la2 R.T.length lc2) (.int .i64 i2) (.slice ra2 rn2 rc2) (.slice na2 nn2 nc2) (.slice ca2 cn2 cc2) (.int .i64 bad2) (.bool dp2) (.bool R.one));refine bodyPost_ret (v:=.tuple #[.agg #[.slice la2 R.T.length lc2,.int .i64 i2,.slice ra2 rn2 rc2,.slice na2 nn2 nc2,.slice ca2 cn2 cc2,.int .i64 bad2,.bool dp2,.bool R.one],.int .i64 k]) (by simp[results,Tryz.results55,go_sem,c0,c1,c2,c3,c4,c5,c6,c7]) rfl ?_;exact⟨la2,lc2,i2,ra2,rn2,rc2,na2,nn2,nc2,ca2,cn2,cc2,bad2,dp2,rfl,zbh HBB.out (Nat.le_succ _) _ _ _ _ _ _ _ _,RF.low8 HQ.out HB2.out _ _ _ _ _ _ _ _⟩
 ·have e0:((kn:Int) == 0)=false:=zav (by omega)
  have e1:((kn:Int) == 1)=false:=zav (by omega);rw[if_neg h0,if_neg h0] at HC;clear h0 hkn;have hZ:∀o:Obj,Bl ((w.alloc o).alloc (.cells zeroV 89)) (w.heap.size+1) 89 zeroV:=fun o=>Bl.new' (by simp)
  have HZ:=Lib.hid hZ;clear hZ;go_enter Tryz.func55,Tryz.ntmps55
  go_wp2_with (go_at_call 81;(with_reducible refine(HC.out _ (zbo w _ _)).mono ?_);rintro e w2 ⟨la2,lc2,i2,ra2,rn2,rc2,na2,nn2,nc2,ca2,cn2,cc2,bad2,dp2,rfl,hb,hq⟩;have hB2:=(HZ.out _).below hb;obtain⟨⟨c0,c1,c2,c3,c4,c5,c6,c7⟩,cf,cl⟩:=zad hB2;have HB2:=Lib.hid hB2;have HBB:=Lib.hid ((zbo w _ _).trans (hb.mono (by simp;omega)));have HQ:=Lib.hid hq;clear hb hq hB2)
  clear c0 c1 c2 c3 c4 c5 c6 c7 cf;obtain⟨⟨c0,c1,c2,c3,c4,c5,c6,c7⟩,cf,-⟩:=zad (zay HB2.out (.slice la2 R.T.length lc2) (.int .i64 i2) (.slice ra2 rn2 rc2) (.slice na2 nn2 nc2) (.slice ca2 cn2 cc2) (.int .i64 bad2) (.bool dp2) (.bool R.one));refine bodyPost_ret (v:=.tuple #[.agg #[.slice la2 R.T.length lc2,.int .i64 i2,.slice ra2 rn2 rc2,.slice na2 nn2 nc2,.slice ca2 cn2 cc2,.int .i64 bad2,.bool dp2,.bool R.one],.int .i64 k]) (by simp[results,Tryz.results55,go_sem,c0,c1,c2,c3,c4,c5,c6,c7]) rfl ?_;exact⟨la2,lc2,i2,ra2,rn2,rc2,na2,nn2,nc2,ca2,cn2,cc2,bad2,dp2,rfl,zbh HBB.out (Nat.le_succ _) _ _ _ _ _ _ _ _,RF.low8 HQ.out HB2.out _ _ _ _ _ _ _ _⟩
theorem zwl (la:Option Addr)(lc:Nat)(i:Int)(ra:Option Addr)(rn rc:Nat)(na:Option Addr)(nn nc:Nat)(ca:Option Addr)(cn cc:Nat)(bad:Int)(dp:Bool)(op:Int)(kb:Nat)(kc:Nat)(k:Int)(hk:w.cell? ⟨kb,0,none⟩=some (.int .i64 k))(h:RSt R rs ts f qs ⟨la,lc,i,ra,rn,rc,na,nn,nc,ca,cn,cc,bad,dp⟩ w) :
  Calls Tryz.prog 55 #[.agg #[.slice la R.T.length lc,.int .i64 i,.slice ra rn rc,.slice na nn nc,.slice ca cn cc,.int .i64 bad,.bool dp,.bool R.one],.int .i64 op,.slice (some ⟨kb,0,none⟩) 1 kc] w (RRes R k (RF R rs ts f qs lo) w):=by
 have hkl:=zai hk;have HH:=Lib.hid h;clear h;go_enter Tryz.func55,Tryz.ntmps55;go_wp2
 go_region_with fail
 all_goals
  go_wp2;refine bodyPost_ret (v:=.tuple #[.agg #[.slice la R.T.length lc,.int .i64 i,.slice ra rn rc,.slice na nn nc,.slice ca cn cc,.int .i64 bad,.bool dp,.bool R.one],.int .i64 k]) (by simp[results,Tryz.results55,go_sem]) rfl ?_;refine⟨la,lc,i,ra,rn,rc,na,nn,nc,ca,cn,cc,bad,dp,rfl,?_,(HH.out.below ?_).rf⟩
  all_goals repeat (first|exact Below.refl _ _|refine Below.drew ?_|refine zac ?_ rfl _)
theorem zjg (x:SV)(op:Int)(ka:Option Addr)(kc:Nat)(ks:List Int)(h:RSt R rs ts f qs x w)(hlo:∀b,(Value.slice ka ks.length kc).ownBlock=some b->lo<=b)(hk:w.ownsRow R.base 3 1 (.slice ka ks.length kc) ks.length (intsV ks))(hm:f.nodes.length<=100000000)(hkl:ks.length<=1000000000)(hbase:R.base<=w.heap.size)(h1:∀k,ks=[k]->k=lastI f) :
  Calls Tryz.prog 55 #[x.v R,.int .i64 op,.slice ka ks.length kc] w (RRes R (lastI (joinN f op ks)) (RF R rs ts (joinN f op ks) qs lo) w):=by
 obtain⟨la,lc,i,ra,rn,rc,na,nn,nc,ca,cn,cc,bad,dp⟩:=x
 match ks,hk,h1,hkl,hlo with
 | [],hk,_,_,_=>
  refine zkw la lc i ra rn rc na nn nc ca cn cc bad dp op ka 0 kc (lastI (addN f (mkN 0 []))) (addN f (mkN 0 [])) (by decide) (by decide) fun W hb=>?_
  exact(zf3 (h.below hb) (mkN 0 []) none 0 (World.ownsRow_nil _ _ _ _) hm (Nat.le_trans hbase hb.size)).mono fun e w' k=>RRes.of k.1 (by
   obtain⟨x',k1,k2⟩:=k.2;exact⟨x',k1,[.slice none 0 0],k2,fun q hq b hb=>by
    obtain rfl:=List.mem_singleton.1 hq;cases hb⟩)
 | [k],hk,h1,_,_=>
  obtain rfl:=h1 k rfl;rcases hk.2 with⟨e,h0⟩|⟨g,cap,cur,e,-⟩
  ·cases h0
  ·injection e with e1 e2 e3
   subst e1;refine zwl la lc i ra rn rc na nn nc ca cn cc bad dp op g kc (lastI f) ?_ h;have:=hk.cells rfl 0 (.int .i64 (lastI f)) rfl;rw[Addr.add_lit] at this;exact this
 |k::l::r,hk,_,hkl,hlo=>
  refine zkw la lc i ra rn rc na nn nc ca cn cc bad dp op ka _ kc (lastI (addN f (mkN op (k::l::r)))) (addN f (mkN op (k::l::r))) (by simp) hkl fun W hb=>?_
  exact(zf3 (h.below hb) (mkN op (k::l::r)) ka kc (zab hk hb) hm (Nat.le_trans hbase hb.size)).mono fun e w' k=>RRes.of k.1 (by
   obtain⟨x',k1,k2⟩:=k.2;exact⟨x',k1,_,k2,fun q hq b hb=>by
    obtain rfl:=List.mem_singleton.1 hq;exact hlo b hb⟩)
end
end
section
open Go.RowKit
section
variable (R:RC) (la:Option Addr) (lc:Nat) (i:Int) (ra:Option Addr) (rn rc:Nat) (na:Option Addr) (nn nc:Nat) (ca:Option Addr) (cn cc:Nat) (bad:Int) (dp:Bool) (d:Nat) (w:World)
theorem zz4 (n:Nat)(t u:Tok)(tl:List Tok)(h:RFix R ⟨la,lc,i,ra,rn,rc,na,nn,nc,ca,cn,cc,bad,dp⟩ w)(hi:i=n)(hn:R.T.drop n=t::u::tl)(ht:t.kind=1)(hd:d=0)(ho:R.one=false) :
  Calls Tryz.prog 53 #[.agg #[.slice la R.T.length lc,.int .i64 i,.slice ra rn rc,.slice na nn nc,.slice ca cn cc,.int .i64 bad,.bool dp,.bool R.one],.int .i64 (d:Int)] w fun e w'=>e=.returned (.bool (!(kI u.kind == 2)))/\Below w.heap.size w w':=by
 have hK:=fun(W:World) (hb:Below w.heap.size w W)=>za9 R ⟨la,lc,i,ra,rn,rc,na,nn,nc,ca,cn,cc,bad,dp⟩ W n t (u::tl) (h.below hb) hi hn
 unfold SV.v at hK;have e1:kI t.kind=1:=by rw[ht];rfl
 rw[e1] at hK;have hn1:R.T.drop (n+1)=u::tl:=by
  have:=congrArg List.tail hn;rw[List.tail_drop] at this;exact this
 have hT:=fun(W:World) (hb:Below w.heap.size w W)=>(h.below hb).tok hn1
 have hlen:=h.2;have hnl:=(h.tok hn).1;rw[ho] at hK ⊢;subst hd;subst hi;obtain⟨kk,hkk⟩:∃y,kI u.kind=y:=⟨_,rfl⟩;have HK:=Lib.hid hK;have HT:=Lib.hid hT;obtain⟨L,hL⟩:∃L,R.T.length=L:=⟨_,rfl⟩;rw[hL] at HK HT hlen hnl ⊢;rw[hkk] at HT ⊢;have v1:IntKind.i64.wrap ((n:Int)+1)=(n:Int)+1:=IntWalk.i64_in _ (by omega);have d1:((0:Nat):Int)=0:=rfl;rw[d1];clear hK hT h hn hn1 ht ho e1 hL hkk d1;go_enter Tryz.func53,Tryz.ntmps53
 go_wp2_with (go_at_call 31;(with_reducible refine(HK.out _ (zaa w _)).mono ?_);rintro e w2 ⟨rfl,hb⟩;have HB:=Lib.hid ((zaa w _).trans (hb.mono (by simp)));obtain⟨hlt,b,hla,⟨c0,-⟩,hbl⟩:=HT.out w2 HB.out;have hla:la=some ⟨b,0,none⟩:=hla;subst hla;have k1:(n:Int)+1<(L:Int):=(by omega);have hB2:=(Bl.new w 89 #[.slice (some ⟨b,0,none⟩) L lc,.int .i64 (n:Int),.slice ra rn rc,.slice na nn nc,.slice ca cn cc,.int .i64 bad,.bool dp,.bool false]).below hb;obtain⟨⟨b0,b1,b2,b3,b4,b5,b6,b7⟩,-,bl⟩:=zad hB2;clear hB2 hb)
 go_ret;exact⟨rfl,HB.out⟩
theorem zz5 (h1:∀W,Below w.heap.size w W->Calls Tryz.prog 31 #[.agg #[.slice la R.T.length lc,.int .i64 i,.slice ra rn rc,.slice na nn nc,.slice ca cn cc,.int .i64 bad,.bool dp,.bool R.one]] W fun e w'=>e=.returned (.int .i64 1)/\Below W.heap.size W w')(hd:¬(d=0/\R.one=false)) :
  Calls Tryz.prog 53 #[.agg #[.slice la R.T.length lc,.int .i64 i,.slice ra rn rc,.slice na nn nc,.slice ca cn cc,.int .i64 bad,.bool dp,.bool R.one],.int .i64 (d:Int)] w fun e w'=>e=.returned (.bool true)/\Below w.heap.size w w':=by
 have HK:=Lib.hid h1;clear h1;by_cases h0:d=0
 ·subst h0
  have ho:R.one=true:=by
   cases h:R.one with
   |true=>rfl
   |false=>exact absurd ⟨rfl,h⟩ hd
  rw[ho] at HK ⊢;have d1:((0:Nat):Int)=0:=rfl;rw[d1];clear hd ho d1;go_enter Tryz.func53,Tryz.ntmps53
  go_wp2_with (go_at_call 31;(with_reducible refine(HK.out _ (zaa w _)).mono ?_);rintro e w2 ⟨rfl,hb⟩;have HB:=Lib.hid ((zaa w _).trans (hb.mono (by simp)));have hB2:=(Bl.new w 89 #[.slice la R.T.length lc,.int .i64 i,.slice ra rn rc,.slice na nn nc,.slice ca cn cc,.int .i64 bad,.bool dp,.bool true]).below hb;obtain⟨⟨b0,b1,b2,b3,b4,b5,b6,b7⟩,-,bl⟩:=zad hB2;clear hB2 hb)
  go_ret;exact⟨rfl,HB.out⟩
 ·have e1:((d:Int) == 0)=false:=zav (by omega)
  clear hd h0;go_enter Tryz.func53,Tryz.ntmps53
  go_wp2_with (go_at_call 31;(with_reducible refine(HK.out _ (zaa w _)).mono ?_);rintro e w2 ⟨rfl,hb⟩;have HB:=Lib.hid ((zaa w _).trans (hb.mono (by simp)));clear hb)
  go_ret;exact⟨rfl,HB.out⟩
theorem zwm (k:Int)(b:Bool)(hk1:k≠1)(h1:∀W,Below w.heap.size w W->Calls Tryz.prog 31 #[.agg #[.slice la R.T.length lc,.int .i64 i,.slice ra rn rc,.slice na nn nc,.slice ca cn cc,.int .i64 bad,.bool dp,.bool R.one]] W fun e w'=>e=.returned (.int .i64 k)/\Below W.heap.size W w')(hb:b=((k == 4) || (k == 5) || (k == 9) || decide (11<=k))) :
  Calls Tryz.prog 53 #[.agg #[.slice la R.T.length lc,.int .i64 i,.slice ra rn rc,.slice na nn nc,.slice ca cn cc,.int .i64 bad,.bool dp,.bool R.one],.int .i64 (d:Int)] w fun e w'=>e=.returned (.bool b)/\Below w.heap.size w w':=by
 have HK:=Lib.hid h1;have e1:(k == 1)=false:=zae hk1;clear h1 hk1;by_cases h4:k=4
 ·subst h4
  replace hb:b=true:=hb;subst hb;go_enter Tryz.func53,Tryz.ntmps53
  go_wp2_with (go_at_call 31;(with_reducible refine(HK.out _ (zaa w _)).mono ?_);rintro e w2 ⟨rfl,hb⟩;have HB:=Lib.hid ((zaa w _).trans (hb.mono (by simp)));clear hb)
  go_ret;exact⟨rfl,HB.out⟩
 by_cases h5:k=5
 ·subst h5
  replace hb:b=true:=hb;subst hb;go_enter Tryz.func53,Tryz.ntmps53
  go_wp2_with (go_at_call 31;(with_reducible refine(HK.out _ (zaa w _)).mono ?_);rintro e w2 ⟨rfl,hb⟩;have HB:=Lib.hid ((zaa w _).trans (hb.mono (by simp)));clear hb)
  go_ret;exact⟨rfl,HB.out⟩
 by_cases h9:k=9
 ·subst h9
  replace hb:b=true:=hb;subst hb;go_enter Tryz.func53,Tryz.ntmps53
  go_wp2_with (go_at_call 31;(with_reducible refine(HK.out _ (zaa w _)).mono ?_);rintro e w2 ⟨rfl,hb⟩;have HB:=Lib.hid ((zaa w _).trans (hb.mono (by simp)));clear hb)
  go_ret;exact⟨rfl,HB.out⟩
 have e4:(k == 4)=false:=zae h4;have e5:(k == 5)=false:=zae h5;have e9:(k == 9)=false:=zae h9;replace hb:b=decide (11<=k):=by rw[hb,e4,e5,e9];rfl
 subst hb;clear h4 h5 h9;go_enter Tryz.func53,Tryz.ntmps53
 go_wp2_with (go_at_call 31;(with_reducible refine(HK.out _ (zaa w _)).mono ?_);rintro e w2 ⟨rfl,hb⟩;have HB:=Lib.hid ((zaa w _).trans (hb.mono (by simp)));clear hb)
 go_ret;exact⟨rfl,HB.out⟩
end
theorem kI_ne {k m:Nat}(h:k≠m):kI k≠(m:Int):=by
 unfold kI;split
 ·omega
 ·omega
theorem zz6 {R:RC}{rs:List (List Nat × Nat × Int)}{ts:List Tok}{f:MF}{qs:List Value}{x:SV}{w:World}(h:RSt R rs ts f qs x w)(hE:Endy ts)(d:Nat):Calls Tryz.prog 53 #[x.v R,.int .i64 (d:Int)] w fun e w'=>e=.returned (.bool (begB (!R.one&&decide (d=0)) ts))/\Below w.heap.size w w':=by
 obtain⟨la,lc,i,ra,rn,rc,na,nn,nc,ca,cn,cc,bad,dp⟩:=x;obtain⟨h1,h2,h3,⟨n,hi,hn⟩,-⟩:=h;have hkind:=hE.kind
 match ts,hE,hn,hkind with
 |t::tl,hE,hn,hkind=>
  have hK:=fun(W:World) (hb:Below w.heap.size w W)=>za9 R ⟨la,lc,i,ra,rn,rc,na,nn,nc,ca,cn,cc,bad,dp⟩ W n t tl (h1.below hb) hi hn
  by_cases hk1:t.kind=1
  ·have hbg:begB (!R.one&&decide (d=0)) (t::tl)=!((!R.one&&decide (d=0))&&kd tl == 2):=if_pos hk1
   rw[hbg];by_cases hd:d=0/\R.one=false
   ·obtain⟨hd,ho⟩:=hd
    have htl:=hE.tail (show t.kind≠0 by omega) (show t.kind≠99 by omega)
    match tl,htl,hE,hn with
    |u::r,htl,hE,hn=>
     have:=zz4 R la lc i ra rn rc na nn nc ca cn cc bad dp d w n t u r h1 hi hn hk1 hd ho;have e1:(kI u.kind == 2)=(kd (u::r) == 2):=by
      have hku:=htl.kind;show(kI u.kind == 2)=(u.kind == 2);unfold kI;rw[Bool.eq_iff_iff,beq_iff_eq,beq_iff_eq];have hku:u.kind<=13∨u.kind=99:=hku;split<;>omega
     rw[e1] at this;rw[ho,decide_eq_true hd];exact this
   ·have hf:(!R.one&&decide (d=0))=false:=by
     cases ho:R.one with
     |true=>rfl
     |false=>rw[decide_eq_false (fun e=>hd ⟨e,ho⟩)];rfl
    rw[hf];exact zz5 R la lc i ra rn rc na nn nc ca cn cc bad dp d w (fun W hb=>by
     have:=hK W hb;rw[show kI t.kind=1 by rw[hk1];rfl] at this;exact this) hd
  ·have hbg:begB (!R.one&&decide (d=0)) (t::tl)=decide (t.kind=4∨t.kind=5∨t.kind=9∨t.kind=11∨t.kind=12∨t.kind=13):=if_neg hk1
   rw[hbg];have hkk:t.kind<=13∨t.kind=99:=hkind;refine zwm R la lc i ra rn rc na nn nc ca cn cc bad dp d w (kI t.kind) _ (kI_ne hk1) hK ?_;unfold kI;rw[Bool.eq_iff_iff];simp only[decide_eq_true_eq,Bool.or_eq_true,beq_iff_eq];split<;>omega
end
end Go.Proofs.YtnmflokhnaiiiaaGreatDoor
