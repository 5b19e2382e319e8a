/- Small lemmas that the texts of several stages use: old memory over new, rows of values, numbers and strings in a walk. Sets of bytes: the arithmetic, the walks  -/
import Derived.Test.YtmopdlbpkiaoeaaGreatDoorProg
import Derived.WalkKit
import Derived.ProofKit
import Derived.Outline
import Derived.Handy
import Derived.Below
import Derived.OwnWalk
import Derived.Lib.Hide
import Derived.Lib.BufferRead
import Derived.Deep.QuietTactic
import Derived.Laws.BitsAllLaws
import Derived.RegionTactic
import Derived.ChangeAlike
import Derived.Laws.AppendOwn
import Derived.Maps.AppendAt
import Derived.WalkSmall
import Derived.ChangeKeysEq
import Derived.Laws.StructEq
import Derived.OwnWalkIn
import Derived.TacticsInMore
import Derived.RangeFuncBox
import Derived.RangeFuncNested
import Derived.RangeFuncBound
import Derived.RangeFuncCalls
import Derived.RangeFuncLeaves
import Derived.Shelf.Abstract
import Derived.Shelf.RegionOpen
import Derived.LoopNIn
import Derived.LoopIn
import Derived.Test.YtmopdlbpkiaoeaaGreatDoorPqA
set_option maxRecDepth 100000
set_option maxHeartbeats 2000000
open Go.IntKind renaming i64->jd, u64->jg, u8->jl
open Go.Value renaming int->je, slice->jf, bool->ji, pointer->jj
namespace Go.Proofs.YtmopdlbpkiaoeaaGreatDoor
open _root_.Array renaming replicate_succ->qeb, replicate_zero->qec
open Bool renaming eq_iff_iff->qcd
open Go renaming u64_and_nat->qew
open Go.Lib renaming hid->qaa
open Go.Proofs.Tryz renaming prog->qab
open Go.RowKit.Below renaming refl->qaf
open Go.World renaming ownsRow_nil->qav, size_alloc->qbl
open Int renaming eq_ofNat_of_zero_le->qco, toNat_natCast->qa8
open List renaming append_toArray->qel, cons_append->qbt, getElem?_map->qax, length_append->qad, length_cons->qah, length_map->qaw, length_nil->qbq, map_append->qa5, nil_append->qbi, push_toArray->qev, size_toArray->qct
open Nat renaming le_refl->qac, le_trans->qal, testBit_two_pow_mul_add->qc6
open Go.RowKit
variable {a b c:Int}{xs:List Value}{B Bs base k n size:Nat}{e t:TypeId}{v:Value}{A W w w' w1:World}
theorem bcell (hb:Below n W w1):(∀b o,b<n->w1.cell? ⟨b,o,none⟩=W.cell? ⟨b,o,none⟩)/\(∀b o,b<n->w1.frozen? ⟨b,o,none⟩=W.frozen? ⟨b,o,none⟩):=
 ⟨fun b o h=>hb.cell (p:=⟨b,o,none⟩) h,fun b o h=>hb.frozen (p:=⟨b,o,none⟩) h⟩
theorem zap {a b:Bool}(h:a=b):Ending.returned (ji a)=.returned (ji b):=by rw[h]
theorem zfv {k:IntKind}(h:a=b):Ending.returned (.int k a)=.returned (.int k b):=by rw[h]
theorem zai {b o:Nat}(h:w.cell? ⟨b,o,none⟩=some v):b<w.heap.size:=by
 rcases Nat.lt_or_ge b w.heap.size with h'|h'
 ·exact h'
 ·simp[World.cell?,Array.getElem?_eq_none h'] at h
def RowAt (w:World)(v:Value)(cs:List Value):Prop:=∃a cap,v=jf a cs.length cap/\(cs=[]∨∃b off,a=some ⟨b,off,none⟩/\∀i c,cs[i]?=some c->w.cell? ⟨b,off+i,none⟩=some c)
theorem RowAt.of_owns {cs:List Value}(h:w.ownsRow base t 1 v n cs)(hn:cs.length=n):RowAt w v cs:=by
 subst hn;have h':=h;obtain⟨-,⟨rfl,h0⟩|⟨g,cap,cur,rfl,-⟩⟩:=h'
 ·exact⟨none,0,by rw[h0],.inl (List.length_eq_zero_iff.1 h0)⟩
 ·refine⟨_,cap,rfl,.inr ⟨g,0,rfl,fun i c hc=>?_⟩⟩
  have:=h.cells rfl i c hc;rw[Addr.add_lit] at this;exact this
theorem za3 {α:Type}(l:List α)(k:Nat)(x:α)(h:l[k]?=some x):l.take (k+1)=l.take k++[x]:=by
 obtain⟨h1,h2⟩:=List.getElem?_eq_some_iff.1 h;rw[List.take_succ_eq_append_getElem h1,h2]
theorem infoU8:(qab.info? 5).map (fun i=>(i.zero,i.size,i.bytes))=some (some (je jl 0),1,1):=jb
theorem zhy (h:Below w.heap.size w w'):w.grownBy w' none:=⟨h.os,h.tape,h.output,h.size,fun k hk _=>h.block k hk⟩
def u8s (l:List Nat):List Value:=l.map fun k:Nat=>Value.int .u8 (k:Int)
theorem zqx (l:List Nat)(k:Nat):u8s (l++[k])=u8s l++[je jl (k:Int)]:=by unfold u8s;rw[qa5];rfl
theorem zab (h:W.ownsRow base e size v k xs)(hb:Below W.heap.size W w1):w1.ownsRow base e size v k xs:=by
 refine h.kept (zhy hb) ?_;cases hv:v.ownBlock with
 |none=>exact .inl rfl
 |some b=>exact .inr jc
theorem zak {m:Nat}{a:World}(h:Below B a w):Below B a (w.drewN m):=⟨h.os,h.tape,h.output,h.size,h.block⟩
theorem zat (w:World)(x:Value)(t:TypeId):∀j u,[x][j]?=some u->(w.alloc (.cells #[x] t)).cell? ((⟨w.heap.size,0,none⟩:Addr).add j)=some u:=by
 intro j u hj
 match j,hj with
 |0,hj=>simp at hj;subst hj;simp[Addr.add]
theorem zg6 (l:List Nat):(u8s l).length=l.length:=by unfold u8s;rw[qaw]
theorem yaa8 (l m:List Nat):u8s (l++m)=u8s l++u8s m:=by unfold u8s;rw[qa5]
theorem zav {d:Nat}{k:Int}(h:(d:Int)≠k):((d:Int) == k)=false:=by rw[beq_eq_false_iff_ne];exact h
theorem zke {s:ByteArray}(h:0<s.size):s.toList.isEmpty=false:=by
 rw[ByteArray.toList_eq];cases hl:s.data.toList with
 |nil=>have:=congrArg List.length hl;rw[Array.length_toList] at this;exact absurd this (by show ¬s.size=0;omega)
 |cons _ _=>rfl
theorem ziv {s:ByteArray}(h:¬0<s.size):s.toList.isEmpty=true:=by
 rw[ByteArray.toList_eq];cases hl:s.data.toList with
 |nil=>rfl
 |cons a l=>have:=congrArg List.length hl;rw[Array.length_toList,qah] at this;exact absurd this (by show ¬s.size=_;omega)
theorem zae {k:Int}(h:c≠k):(c == k)=false:=by rw[beq_eq_false_iff_ne];exact h
theorem zah {k:Int}(h:c≠k):(c != k)=true:=by rw[bne_iff_ne];exact h
theorem zqy {l:List Nat}(h:RowAt w v (u8s l))(hl:∀x,x ∈ l->x<256):(convert 71 9 v).run qab w=.ok (.string (strOf l)) w:=by
 obtain⟨a,cap,rfl,h⟩:=h;rcases h with h0|⟨b,off,rfl,hc⟩
 ·have:l=[]:=List.map_eq_nil_iff.1 h0
  subst this;cases a with
  |none=>exact Lib.run_convert_nil_bytes w _ _ _ cap Tryz.underlying71 Tryz.underlying5 Tryz.underlying9
  |some a=>exact run_convert_bytes_back w _ _ _ a cap [] Tryz.underlying71 Tryz.underlying5 Tryz.underlying9 (fun j hj=>absurd hj jc)
 ·have hlen:(u8s l).length=(l.map UInt8.ofNat).length:=by rw[zg6,qaw]
  rw[hlen];refine run_convert_bytes_back w _ _ _ ⟨b,off,none⟩ cap (l.map UInt8.ofNat) Tryz.underlying71 Tryz.underlying5 Tryz.underlying9 (fun j hj=>?_);rw[Addr.add_lit];have hj':j<l.length:=by simpa using hj
  have:=hc j (je jl ((l[j]:Nat):Int)) (by unfold u8s;rw[qax,List.getElem?_eq_getElem hj'];rfl);rw[this];congr 2;rw[List.getElem_map];have:=hl _ (List.getElem_mem hj');simp;omega
end Go.Proofs.YtmopdlbpkiaoeaaGreatDoor
namespace Go.Proofs.YtmopdlbpkiaoeaaGreatDoor
open _root_.Array renaming replicate_succ->qeb, replicate_zero->qec
open Bool renaming eq_iff_iff->qcd
open Go renaming u64_and_nat->qew
open Go.Lib renaming hid->qaa
open Go.Proofs.Tryz renaming prog->qab
open Go.RowKit.Below renaming refl->qaf
open Go.World renaming ownsRow_nil->qav, size_alloc->qbl
open Int renaming eq_ofNat_of_zero_le->qco, toNat_natCast->qa8
open List renaming append_toArray->qel, cons_append->qbt, getElem?_map->qax, length_append->qad, length_cons->qah, length_map->qaw, length_nil->qbq, map_append->qa5, nil_append->qbi, push_toArray->qev, size_toArray->qct
open Nat renaming le_refl->qac, le_trans->qal, testBit_two_pow_mul_add->qc6
variable {a b c:Int}{xs:List Value}{B Bs base k n size:Nat}{e t:TypeId}{v:Value}{A W w w' w1:World}
section
def zgc (f:Nat->Bool):Nat->Nat
 |0=>0
 |n+1=>zgc f n+(f n).toNat*2 ^ n
theorem zmy (f:Nat->Bool)(n:Nat):zgc f n<2 ^ n:=by
 induction n with
 |zero=>simp[zgc]
 |succ n ih=>
  unfold zgc;have:(f n).toNat<=1:=Bool.toNat_le _;have h2:(f n).toNat*2 ^ n<=1*2 ^ n:=Nat.mul_le_mul_right _ this;rw[Nat.pow_succ];omega
theorem zjw (f:Nat->Bool)(n k:Nat):(zgc f n).testBit k=(decide (k<n)&&f k):=by
 induction n with
 |zero=>simp[zgc]
 |succ n ih=>
  have hl:=zmy f n;unfold zgc;rw[Nat.add_comm,Nat.mul_comm,qc6 _ hl];by_cases hk:k<n
  ·simp[hk,ih,show k<n+1 from by omega]
  ·simp only[hk,if_false]
   by_cases he:k=n
   ·subst he;cases f k<;>simp
   ·have:k-n≠0:=U
    have h1:¬k<n+1:=U
    simp only[h1,decide_false,Bool.false_and];cases f n
    ·simp
    ·obtain⟨m,hm⟩:∃m,k-n=m+1:=⟨k-n-1,U⟩
     rw[hm];simp[Nat.testBit_succ]
def setW (f:Nat->Bool)(k:Nat):Int:=((zgc (fun j=>f (64*k+j)) 64:Nat):Int)
theorem zem (f:Nat->Bool)(k:Nat):0<=setW f k:=by unfold setW;omega
theorem zfw (f:Nat->Bool)(k:Nat):setW f k<=18446744073709551615:=by
 have:=zmy (fun j=>f (64*k+j)) 64;unfold setW;omega
theorem zfi (f:Nat->Bool)(k j:Nat)(hj:j<64):(setW f k).toNat.testBit j=f (64*k+j):=by
 unfold setW;rw[qa8,zjw];simp[hj]
theorem zy7 (ha:0<=a)(ha':a<=18446744073709551615)(hb:0<=b)(hb':b<=18446744073709551615)(h:∀j,j<64->a.toNat.testBit j=b.toNat.testBit j):a=b:=by
 have:a.toNat=b.toNat:=by
  apply Nat.eq_of_testBit_eq;intro i;by_cases hi:i<64
  ·exact h i hi
  ·have h64:(2:Nat) ^ 64<=2 ^ i:=Nat.pow_le_pow_right U U
   rw[Nat.testBit_lt_two_pow U,Nat.testBit_lt_two_pow U]
 omega
theorem zib {f:Nat->Bool}(ha:0<=a)(ha':a<=18446744073709551615)(h:∀j,j<64->a.toNat.testBit j=f (64*k+j)):a=setW f k:=
 zy7 ha ha' (zem _ _) (zfw _ _) fun j hj=>by rw[h j hj,zfi _ _ _ hj]
theorem zde {f g:Nat->Bool}(h:∀j,j<64->f (64*k+j)=g (64*k+j)):setW f k=setW g k:=
 zib (zem _ _) (zfw _ _) fun j hj=>by rw[zfi _ _ _ hj,h j hj]
theorem ziw {f g:Nat->Bool}(hk:k<4)(h:∀i,i<256->f i=g i):setW f k=setW g k:=
 zde fun j hj=>h _ U
theorem yaj7 (f:Nat->Bool)(i:Nat):(bits BinOp.and IntKind.u64 (setW f (i/64)/2 ^ (i%64)) 1 == 1)=f i:=by
 have hlo:=zem f (i/64);have hhi:=zfw f (i/64);have hb:=zfi f (i/64) (i%64) U;rw[show 64*(i/64)+i%64=i from by omega] at hb;rw[<-hb];obtain⟨n,hn⟩:=qco hlo;rw[hn,qa8];have e:((n:Int)/2 ^ (i%64))=((n/2 ^ (i%64):Nat):Int):=by
  rw[Int.natCast_ediv,Int.natCast_pow];rfl
 have hle:n/2 ^ (i%64)<=n:=Nat.div_le_self _ _;rw[e,show(1:Int)=((1:Nat):Int) from rfl,qew _ _ U U];rw[Nat.testBit,Nat.shiftRight_eq_div_pow,Nat.and_comm 1];rw[qcd];simp only[beq_iff_eq,bne_iff_ne,ne_eq,Nat.and_one_is_mod];omega
theorem zix (f g:Nat->Bool)(k:Nat):bits BinOp.or IntKind.u64 (setW f k) (setW g k)=setW (fun i=>f i || g i) k:=by
 have a1:=zem f k;have a2:=zfw f k;have b1:=zem g k;have b2:=zfw g k;rw[Go.u64_or _ _ a1 U b1 U];have hl:((setW f k).toNat ||| (setW g k).toNat)<2 ^ 64:=Nat.or_lt_two_pow U U;refine zib U U fun j hj=>?_
 rw[qa8,Nat.testBit_or,zfi _ _ _ hj,zfi _ _ _ hj]
theorem zic (f:Nat->Bool)(k:Nat):bits BinOp.xor IntKind.u64 IntKind.u64.max (setW f k)=setW (fun i=>!f i) k:=by
 have a1:=zem f k;have a2:=zfw f k;rw[show IntKind.u64.max=(18446744073709551615:Int) from rfl,Go.u64_xor _ _ U U a1 U];have hl:((18446744073709551615:Int).toNat ^^^ (setW f k).toNat)<2 ^ 64:=Nat.xor_lt_two_pow ja U;refine zib U U fun j hj=>?_
 rw[qa8,Nat.testBit_xor,zfi _ _ _ hj];have:(18446744073709551615:Int).toNat=2 ^ 64-1:=ja
 rw[this,Nat.testBit_two_pow_sub_one];simp[hj]
end
section
def cnt (f:Nat->Bool):Nat->Nat
 |0=>0
 |n+1=>cnt f n+(f n).toNat
theorem yae6 (f:Nat->Bool)(n:Nat):cnt f n<=n:=by
 induction n with
 |zero=>simp[cnt]
 |succ n ih=>unfold cnt;have:(f n).toNat<=1:=Bool.toNat_le _;omega
theorem yac6 (f:Nat->Bool)(m n:Nat):cnt f (m+n)=cnt f m+cnt (fun i=>f (m+i)) n:=by
 induction n with
 |zero=>simp[cnt]
 |succ n ih=>rw[<-Nat.add_assoc];show cnt f (m+n)+_=_+(cnt _ n+_);rw[ih];exact Nat.add_assoc _ _ _
theorem z9o {f g:Nat->Bool}(h:∀i,i<n->f i=g i):cnt f n=cnt g n:=by
 induction n with
 |zero=>rfl
 |succ n ih=>unfold cnt;rw[ih fun i hi=>h i U,h n U]
def p1 (m x:Nat):Nat:=((x/2) &&& m)+(x &&& m)
def p2 (m x:Nat):Nat:=((x/4) &&& m)+(x &&& m)
def p3 (m x:Nat):Nat:=(x/16+x) &&& m
theorem z93 (a m x y:Nat)(ha:a<256)(hm:m<256):(a+256*x) &&& (m+256*y)=(a &&& m)+256*(x &&& y):=by
 have hl:a &&& m<2 ^ 8:=Nat.and_lt_two_pow _ U;apply Nat.eq_of_testBit_eq;intro i;rw[Nat.testBit_and,show a+256*x=2 ^ 8*x+a from by omega,show m+256*y=2 ^ 8*y+m from by omega,show(a &&& m)+256*(x &&& y)=2 ^ 8*(x &&& y)+(a &&& m) from by omega,
  qc6 _ U,qc6 _ U,qc6 _ hl]
 by_cases h:i<8<;>simp[h]
theorem yaan (a m x:Nat)(ha:a<256):p1 (85+256*m) (a+256*x)=p1 85 a+256*p1 m x:=by
 unfold p1;have e:(a+256*x)/2=(a/2+128*(x%2))+256*(x/2):=U
 have key:∀a,a<256->∀t,t<2->((a/2+128*t) &&& 85)=((a/2) &&& 85):=by decide +kernel
 rw[e,z93 _ _ _ _ U U,z93 _ _ _ _ ha U,key a ha _ U];omega
theorem yaao (a m x:Nat)(ha:a<256):p2 (51+256*m) (a+256*x)=p2 51 a+256*p2 m x:=by
 unfold p2;have e:(a+256*x)/4=(a/4+64*(x%4))+256*(x/4):=U
 have key:∀a,a<256->∀t,t<4->((a/4+64*t) &&& 51)=((a/4) &&& 51):=by decide +kernel
 rw[e,z93 _ _ _ _ U U,z93 _ _ _ _ ha U,key a ha _ U];omega
def nib (x:Nat):Prop:=x%16<=4/\x/16<=4
theorem yaap (a m x t:Nat)(ha:nib a)(ht:x%16=t)(h4:t<=4):p3 (15+256*m) (a+256*x)=p3 15 a+256*p3 m x:=by
 unfold p3;obtain⟨h1,h2⟩:=ha;have e:(a+256*x)/16+(a+256*x)=(a/16+16*t+a)+256*(x/16+x):=U
 have key:∀a,a<80->∀t,t<5->a%16<=4->((a/16+16*t+a) &&& 15)=((a/16+a) &&& 15):=by decide +kernel
 rw[e,z93 _ _ _ _ U U,key a U t U h1]
def by8 (a b c d e f g h:Nat):Nat:=a+256*(b+256*(c+256*(d+256*(e+256*(f+256*(g+256*h))))))
theorem yaip (x:Nat)(hx:x<18446744073709551616):∃a b c d e f g h,x=by8 a b c d e f g h/\a<256/\b<256/\c<256/\d<256/\e<256/\f<256/\g<256/\h<256:=by
 refine⟨x%256,x/256%256,x/65536%256,x/16777216%256,x/4294967296%256,x/1099511627776%256,x/281474976710656%256,x/72057594037927936,?_,?_,?_,?_,?_,?_,?_,?_,?_⟩
 ·unfold by8;omega
 all_goals omega
def pop8 (a:Nat):Nat:=p3 15 (p2 51 (p1 85 a))
theorem z9c:∀a,a<256->p1 85 a<256/\nib (p2 51 (p1 85 a))/\p2 51 (p1 85 a)%16<=4/\pop8 a=cnt (fun k=>a.testBit k) 8/\pop8 a<=8:=by
 unfold nib;decide +kernel
theorem yald (a b c d e f g h:Nat)(ha:a<256)(hb:b<256)(hc:c<256)(hd:d<256)(he:e<256)(hf:f<256)(hg:g<256) :
  p1 6148914691236517205 (by8 a b c d e f g h)=by8 (p1 85 a) (p1 85 b) (p1 85 c) (p1 85 d) (p1 85 e) (p1 85 f) (p1 85 g) (p1 85 h):=by
 unfold by8;rw[show(6148914691236517205:Nat)=85+256*(85+256*(85+256*(85+256*(85+256*(85+256*(85+256*85)))))) from rfl];rw[yaan _ _ _ ha,yaan _ _ _ hb,yaan _ _ _ hc,yaan _ _ _ hd,yaan _ _ _ he,yaan _ _ _ hf,yaan _ _ _ hg]
theorem yale (a b c d e f g h:Nat)(ha:a<256)(hb:b<256)(hc:c<256)(hd:d<256)(he:e<256)(hf:f<256)(hg:g<256) :
  p2 3689348814741910323 (by8 a b c d e f g h)=by8 (p2 51 a) (p2 51 b) (p2 51 c) (p2 51 d) (p2 51 e) (p2 51 f) (p2 51 g) (p2 51 h):=by
 unfold by8;rw[show(3689348814741910323:Nat)=51+256*(51+256*(51+256*(51+256*(51+256*(51+256*(51+256*51)))))) from rfl];rw[yaao _ _ _ ha,yaao _ _ _ hb,yaao _ _ _ hc,yaao _ _ _ hd,yaao _ _ _ he,yaao _ _ _ hf,yaao _ _ _ hg]
theorem yalf (a b c d e f g h:Nat)(ha:nib a)(hb:nib b)(hc:nib c)(hd:nib d)(he:nib e)(hf:nib f)(hg:nib g)(hh:nib h) :
  p3 1085102592571150095 (by8 a b c d e f g h)=by8 (p3 15 a) (p3 15 b) (p3 15 c) (p3 15 d) (p3 15 e) (p3 15 f) (p3 15 g) (p3 15 h):=by
 unfold by8;have k:∀x y:Nat,(x+256*y)%16=x%16:=fun x y=>U
 rw[show(1085102592571150095:Nat)=15+256*(15+256*(15+256*(15+256*(15+256*(15+256*(15+256*15)))))) from rfl];rw[yaap _ _ _ _ ha (k _ _) hb.1,yaap _ _ _ _ hb (k _ _) hc.1,yaap _ _ _ _ hc (k _ _) hd.1,yaap _ _ _ _ hd (k _ _) he.1,yaap _ _ _ _ he (k _ _) hf.1,yaap _ _ _ _ hf (k _ _) hg.1,yaap _ _ _ _ hg rfl hh.1]
theorem yaee (a b c d e f g h a' b' c' d' e' f' g' h':Nat):by8 a b c d e f g h+by8 a' b' c' d' e' f' g' h'=by8 (a+a') (b+b') (c+c') (d+d') (e+e') (f+f') (g+g') (h+h'):=by
 unfold by8;omega
theorem yalg (a b c d e f g h:Nat)(ha:a<256):by8 a b c d e f g h/256=by8 b c d e f g h 0:=by
 have:∀u v:Nat,u<256->(u+256*v)/256=v:=fun u v h=>U
 unfold by8;rw[this _ _ ha];simp
theorem yalh (a b c d e f g h:Nat)(ha:a<256)(hb:b<256):by8 a b c d e f g h/65536=by8 c d e f g h 0 0:=by
 have:∀u v r:Nat,u<256->v<256->(u+256*(v+256*r))/65536=r:=fun u v r h h'=>U
 unfold by8;rw[this _ _ _ ha hb];simp
theorem yali (a b c d e f g h:Nat)(ha:a<256)(hb:b<256)(hc:c<256)(hd:d<256):by8 a b c d e f g h/4294967296=by8 e f g h 0 0 0 0:=by
 have:∀u v r s q:Nat,u<256->v<256->r<256->s<256->(u+256*(v+256*(r+256*(s+256*q))))/4294967296=q:=fun u v r s q h1 h2 h3 h4=>U
 unfold by8;rw[this _ _ _ _ _ ha hb hc hd];simp
theorem by8_m (a b c d e f g h:Nat):by8 a b c d e f g h%128=a%128:=by
 have:∀u v:Nat,(u+256*v)%128=u%128:=fun u v=>U
 unfold by8;rw[this]
theorem yalj (a b c d e f g h k:Nat)(ha:a<=8)(hb:b<=8)(hc:c<=8)(hd:d<=8)(he:e<=8)(hf:f<=8)(hg:g<=8)(hh:h<=8)(hk:by8 8 8 8 8 8 8 8 8<=k):by8 a b c d e f g h<=k:=by
 unfold by8 at *;omega
theorem yaj8 (a b c d e f g h:Nat)(ha:a<=8)(hb:b<=8)(hc:c<=8)(hd:d<=8)(he:e<=8)(hf:f<=8)(hg:g<=8)(hh:h<=8)(x y z t:Nat)
  (hx:x=by8 a b c d e f g h) (hy:y=x+x/256) (hz:z=y+y/65536) (ht:t=z+z/4294967296):x<=578721382704613384/\y<=581000000000000000/\z<=582000000000000000/\t<=583000000000000000/\t%128=a+b+c+d+e+f+g+h:=by
 have e1:x/256=by8 b c d e f g h 0:=by rw[hx];exact yalg _ _ _ _ _ _ _ _ U
 have ey:y=by8 (a+b) (b+c) (c+d) (d+e) (e+f) (f+g) (g+h) h:=by
  rw[hy,e1,hx,yaee];rfl
 have e2:y/65536=by8 (c+d) (d+e) (e+f) (f+g) (g+h) h 0 0:=by rw[ey];exact yalh _ _ _ _ _ _ _ _ U U
 have ez:z=by8 (a+b+(c+d)) (b+c+(d+e)) (c+d+(e+f)) (d+e+(f+g)) (e+f+(g+h)) (f+g+h) (g+h) h:=by
  rw[hz,e2,ey,yaee];rfl
 have e4:z/4294967296=by8 (e+f+(g+h)) (f+g+h) (g+h) h 0 0 0 0:=by rw[ez];exact yali _ _ _ _ _ _ _ _ U U U U
 have et:t=by8 (a+b+(c+d)+(e+f+(g+h))) (b+c+(d+e)+(f+g+h)) (c+d+(e+f)+(g+h)) (d+e+(f+g)+h) (e+f+(g+h)) (f+g+h) (g+h) h:=by
  rw[ht,e4,ez,yaee];rfl
 have b0:x<=578721382704613384:=by rw[hx];exact yalj _ _ _ _ _ _ _ _ _ ha hb hc hd he hf hg hh ja
 refine⟨b0,?_,?_,?_,?_⟩
 ·clear ez et e1 e2 e4 ey;omega
 ·clear ez et e1 e2 e4 ey;omega
 ·clear ez et e1 e2 e4 ey;omega
 ·rw[et,by8_m,Nat.mod_eq_of_lt U];omega
theorem yaj9 (a b c d e f g h:Nat)(ha:a<256)(hb:b<256)(hc:c<256)(hd:d<256)(he:e<256)(hf:f<256)(hg:g<256)(hh:h<256) :
  cnt (fun k=>(by8 a b c d e f g h).testBit k) 64=pop8 a+pop8 b+pop8 c+pop8 d+pop8 e+pop8 f+pop8 g+pop8 h:=by
 have step:∀(a y n:Nat),a<256->cnt (fun k=>(a+256*y).testBit k) (8+n)=pop8 a+cnt (fun k=>y.testBit k) n:=by
  intro a y n ha;have hb:∀i,(a+256*y).testBit i=if i<8 then a.testBit i else y.testBit (i-8):=fun i=>by
   rw[show a+256*y=2 ^ 8*y+a from by omega,qc6 _ U]
  rw[yac6,(z9c a ha).2.2.2.1];congr 1
  ·exact z9o fun i hi=>by rw[hb,if_pos hi]
  ·exact z9o fun i _=>by rw[hb,if_neg U];congr 1;omega
 unfold by8;rw[show(64:Nat)=8+(8+(8+(8+(8+(8+(8+8)))))) from rfl,step _ _ _ ha,step _ _ _ hb,step _ _ _ hc,step _ _ _ hd,step _ _ _ he,step _ _ _ hf,step _ _ _ hg,(z9c h hh).2.2.2.1];omega
def oc1 (x:Int):Int:=IntKind.u64.wrap (bits BinOp.and IntKind.u64 (x/2) 6148914691236517205+bits BinOp.and IntKind.u64 x 6148914691236517205)
def oc2 (x:Int):Int:=IntKind.u64.wrap (bits BinOp.and IntKind.u64 (x/4) 3689348814741910323+bits BinOp.and IntKind.u64 x 3689348814741910323)
def oc3 (x:Int):Int:=bits BinOp.and IntKind.u64 (IntKind.u64.wrap (x/16+x)) 1085102592571150095
def ocS (k x:Int):Int:=IntKind.u64.wrap (x+x/k)
def ocE (x:Int):Int:=ocS 4294967296 (ocS 65536 (ocS 256 (oc3 (oc2 (oc1 x)))))
theorem zo0 (n:Int)(h0:0<=n)(h1:n<18446744073709551616):IntKind.u64.wrap n=n:=by
 rw[IntKind.wrap_u64];omega
theorem yajs (a b c d e f g h:Nat)(ha:a<256)(hb:b<256)(hc:c<256)(hd:d<256)(he:e<256)(hf:f<256)(hg:g<256)(hh:h<256):by8 a b c d e f g h<18446744073709551616:=by
 unfold by8;omega
theorem yaka (x:Nat)(hx:x<18446744073709551616)(h:p1 6148914691236517205 x<18446744073709551616):oc1 (x:Int)=(p1 6148914691236517205 x:Nat):=by
 unfold oc1 p1 at *;have e:((x:Int)/2)=((x/2:Nat):Int):=U
 rw[e,show(6148914691236517205:Int)=((6148914691236517205:Nat):Int) from rfl,qew _ _ U U,qew _ _ U U,zo0 _ U U];omega
theorem yakb (x:Nat)(hx:x<18446744073709551616)(h:p2 3689348814741910323 x<18446744073709551616):oc2 (x:Int)=(p2 3689348814741910323 x:Nat):=by
 unfold oc2 p2 at *;have e:((x:Int)/4)=((x/4:Nat):Int):=U
 rw[e,show(3689348814741910323:Int)=((3689348814741910323:Nat):Int) from rfl,qew _ _ U U,qew _ _ U U,zo0 _ U U];omega
theorem yakc (x:Nat)(hx:x/16+x<18446744073709551616):oc3 (x:Int)=(p3 1085102592571150095 x:Nat):=by
 unfold oc3 p3;have e:((x:Int)/16+x)=((x/16+x:Nat):Int):=U
 rw[e,zo0 _ U U,show(1085102592571150095:Int)=((1085102592571150095:Nat):Int) from rfl,qew _ _ U U]
theorem z9m {a:Nat}(h:nib a):a<=68:=by unfold nib at h;omega
theorem yakd (x:Nat)(hx:x<18446744073709551616):0<=ocE (x:Int)/\ocE (x:Int)<=583000000000000000/\ocE (x:Int)%128=(cnt (fun k=>x.testBit k) 64:Nat):=by
 obtain⟨a,b,c,d,e,f,g,h,rfl,ha,hb,hc,hd,he,hf,hg,hh⟩:=yaip x hx;obtain⟨a1,a2,-,-,a4⟩:=z9c a ha;obtain⟨b1,b2,-,-,b4⟩:=z9c b hb;obtain⟨c1,c2,-,-,c4⟩:=z9c c hc;obtain⟨d1,d2,-,-,d4⟩:=z9c d hd;obtain⟨e1,e2,-,-,e4⟩:=z9c e he;obtain⟨f1,f2,-,-,f4⟩:=z9c f hf;obtain⟨g1,g2,-,-,g4⟩:=z9c g hg;obtain⟨h1,h2,-,-,h4⟩:=z9c h hh;have P1:=yald a b c d e f g h ha hb hc hd he hf hg;have L1:=yajs _ _ _ _ _ _ _ _ a1 b1 c1 d1 e1 f1 g1 h1;have P2:=yale _ _ _ _ _ _ _ (p1 85 h) a1 b1 c1 d1 e1 f1 g1;have L2:=yajs (p2 51 (p1 85 a)) (p2 51 (p1 85 b)) (p2 51 (p1 85 c)) (p2 51 (p1 85 d)) (p2 51 (p1 85 e)) (p2 51 (p1 85 f)) (p2 51 (p1 85 g)) (p2 51 (p1 85 h))
  (by have:=z9m a2;omega) (by have:=z9m b2;omega) (by have:=z9m c2;omega) (by have:=z9m d2;omega) (by have:=z9m e2;omega) (by have:=z9m f2;omega) (by have:=z9m g2;omega) (by have:=z9m h2;omega)
 have P3:=yalf _ _ _ _ _ _ _ _ a2 b2 c2 d2 e2 f2 g2 h2;have B2:by8 (p2 51 (p1 85 a)) (p2 51 (p1 85 b)) (p2 51 (p1 85 c)) (p2 51 (p1 85 d)) (p2 51 (p1 85 e)) (p2 51 (p1 85 f)) (p2 51 (p1 85 g)) (p2 51 (p1 85 h))<=4919131752989213764:=by
  have:=z9m a2;have:=z9m b2;have:=z9m c2;have:=z9m d2;have:=z9m e2;have:=z9m f2;have:=z9m g2;have:=z9m h2;unfold by8;omega
 have C:=yaj9 a b c d e f g h ha hb hc hd he hf hg hh;obtain⟨S1,S2,S3,S4,S5⟩:=yaj8 (pop8 a) (pop8 b) (pop8 c) (pop8 d) (pop8 e) (pop8 f) (pop8 g) (pop8 h) a4 b4 c4 d4 e4 f4 g4 h4 _ _ _ _ rfl rfl rfl rfl;unfold ocE;rw[yaka _ hx (by rw[P1];exact L1),P1,yakb _ L1 (by rw[P2];exact L2),P2,yakc _ U,P3,C];change _/\_/\_;generalize hX:by8 (p3 15 (p2 51 (p1 85 a))) (p3 15 (p2 51 (p1 85 b))) (p3 15 (p2 51 (p1 85 c))) (p3 15 (p2 51 (p1 85 d))) (p3 15 (p2 51 (p1 85 e))) (p3 15 (p2 51 (p1 85 f))) (p3 15 (p2 51 (p1 85 g))) (p3 15 (p2 51 (p1 85 h)))=X;have hX':by8 (pop8 a) (pop8 b) (pop8 c) (pop8 d) (pop8 e) (pop8 f) (pop8 g) (pop8 h)=X:=hX;rw[hX'] at S1 S2 S3 S4 S5;clear hX hX' P1 P2 P3 L1 L2 B2 C;unfold ocS;rw[zo0 ((X:Int)+X/256) U U];rw[zo0 ((X:Int)+X/256+((X:Int)+X/256)/65536) U U];rw[zo0 _ U U];refine⟨U,U,?_⟩;rw[<-S5];omega
end
section
open Go.RowKit
theorem ix0 (x y z u:Value)(w:World):(Instr.index 41 (.agg #[x,y,z,u]) (je jd 0)).run qab w=.ok x w:=jb
theorem ix1 (x y z u:Value)(w:World):(Instr.index 41 (.agg #[x,y,z,u]) (je jd 1)).run qab w=.ok y w:=jb
theorem ix2 (x y z u:Value)(w:World):(Instr.index 41 (.agg #[x,y,z,u]) (je jd 2)).run qab w=.ok z w:=jb
theorem ix3 (x y z u:Value)(w:World):(Instr.index 41 (.agg #[x,y,z,u]) (je jd 3)).run qab w=.ok u w:=jb
theorem zqz {x y z u:Value}(hb:Below n (w.alloc (.cells #[x,y,z,u] t)) w1)(hn:w.heap.size<n) :
  w1.cell? ⟨w.heap.size,0,none⟩=some x/\w1.cell? ⟨w.heap.size,1,none⟩=some y/\w1.cell? ⟨w.heap.size,2,none⟩=some z/\w1.cell? ⟨w.heap.size,3,none⟩=some u:=by
 refine⟨?_,?_,?_,?_⟩
 ·rw[(bcell hb).1 _ _ hn];simp
 ·rw[(bcell hb).1 _ _ hn];simp
 ·rw[(bcell hb).1 _ _ hn];simp
 ·rw[(bcell hb).1 _ _ hn];simp
theorem yalk (f:Nat->Bool)(c:Int)(h0:0<=c)(h1:c<=255):[Value.int IntKind.u64 (setW f 0),Value.int IntKind.u64 (setW f 1),Value.int IntKind.u64 (setW f 2),Value.int IntKind.u64 (setW f 3)][(c/64).toNat]?=some (je jg (setW f (c/64).toNat)):=by
 have:c/64=0∨c/64=1∨c/64=2∨c/64=3:=U
 rcases this with h|h|h|h<;>rw[h]<;>rfl
theorem yake (f:Nat->Bool)(c:Int)(w:World)(h0:0<=c)(h1:c<=255) :
  Calls qab 96 #[.agg #[je jg (setW f 0),je jg (setW f 1),je jg (setW f 2),je jg (setW f 3)],je jl c] w fun e w'=>e=.returned (ji (f c.toNat))/\Below w.heap.size w w':=by
 have hi:=yalk f c h0 h1;have l0:=zem f (c/64).toNat;have l1:=zfw f (c/64).toNat;have hb:=yaj7 f c.toNat;rw[show c.toNat/64=(c/64).toNat from by omega,show c.toNat%64=(c%64).toNat from by omega] at hb;have HB:=qaa hb;clear hb;go_enter Tryz.func96,Tryz.ntmps96;go_wp2;go_ret;exact⟨zap HB.out,by go_grown⟩
theorem zo1 {d a' b' c' d':Int}(h0:a=a')(h1:b=b')(h2:c=c')(h3:d=d'):Ending.returned (.agg #[je jg a,je jg b,je jg c,je jg d])=.returned (.agg #[je jg a',je jg b',je jg c',je jg d']):=by rw[h0,h1,h2,h3]
theorem zun (f g:Nat->Bool)(w:World) :
  Calls qab 146 #[.agg #[je jg (setW f 0),je jg (setW f 1),je jg (setW f 2),je jg (setW f 3)],.agg #[je jg (setW g 0),je jg (setW g 1),je jg (setW g 2),je jg (setW g 3)]] w
   fun e w'=>e=.returned (.agg #[je jg (setW (fun i=>f i || g i) 0),je jg (setW (fun i=>f i || g i) 1),je jg (setW (fun i=>f i || g i) 2),je jg (setW (fun i=>f i || g i) 3)])/\Below w.heap.size w w':=by
 have i0:=ix0;have i1:=ix1;have i2:=ix2;have i3:=ix3;go_enter Tryz.func146,Tryz.ntmps146;go_wp2
 go_rounds 5
 go_returns
 exact⟨zo1 (zix _ _ _) (zix _ _ _) (zix _ _ _) (zix _ _ _),by go_grown⟩
theorem z3n (f:Nat->Bool)(w:World) :
  Calls qab 168 #[.agg #[je jg (setW f 0),je jg (setW f 1),je jg (setW f 2),je jg (setW f 3)]] w
   fun e w'=>e=.returned (.agg #[je jg (setW (fun i=>!f i) 0),je jg (setW (fun i=>!f i) 1),je jg (setW (fun i=>!f i) 2),je jg (setW (fun i=>!f i) 3)])/\Below w.heap.size w w':=by
 have i0:=ix0;have i1:=ix1;have i2:=ix2;have i3:=ix3;go_enter Tryz.func168,Tryz.ntmps168;go_wp2
 go_rounds 5
 go_returns
 exact⟨zo1 (zic _ _) (zic _ _) (zic _ _) (zic _ _),by go_grown⟩
theorem zcc (k:Nat):setW (fun _=>false) k=0:=by
 have:zgc (fun _=>false) 64=0:=by decide +kernel
 unfold setW;rw[this];rfl
theorem zy8 (w:World) :
  Calls qab 166 #[] w
   fun e w'=>e=.returned (.agg #[je jg (setW (fun _=>true) 0),je jg (setW (fun _=>true) 1),je jg (setW (fun _=>true) 2),je jg (setW (fun _=>true) 3)])/\Below w.heap.size w w':=by
 have h:=z3n (fun _=>false);rw[zcc 0,zcc 1,zcc 2,zcc 3] at h;have H:=qaa h;clear h;go_enter Tryz.func166,Tryz.ntmps166
 go_wp2_with (refine(H.out _).mono ?_;rintro e w1 ⟨rfl,hb⟩;obtain⟨hc,hf⟩:=bcell hb;obtain⟨c0,c1,c2,c3⟩:=zqz hb jc)
 refine bodyPost_ret (v:=.agg #[je jg (setW (fun _=>true) 0),je jg (setW (fun _=>true) 1),je jg (setW (fun _=>true) 2),je jg (setW (fun _=>true) 3)]) (by simp[results,Tryz.results166,go_sem,c0,c1,c2,c3]) rfl ⟨rfl,?_⟩;exact((((((qaf _ w).alloc (qac _) _).trans (hb.mono jc)).setCell (qac _) _).setCell (qac _) _).setCell (qac _) _).setCell (qac _) _
theorem yaiq (x:Int)(w:World)(h0:0<=x)(h1:x<=18446744073709551615) :
  Calls qab 67 #[je jg x] w fun e w'=>e=.returned (je jd (cnt (fun k=>x.toNat.testBit k) 64:Nat))/\w=w':=by
 obtain⟨n,rfl⟩:=qco h0;have ho:=yakd n U;have e:bits BinOp.and IntKind.i64 (wrap64 (ocE (n:Int))) 127=(cnt (fun k=>n.testBit k) 64:Nat):=by
  rw[IntWalk.wrap64_in (ocE (n:Int)) ⟨U,U⟩,Go.i64_and127];exact ho.2.2
 have E:=qaa e;clear e ho;go_enter Tryz.func67,Tryz.ntmps67;go_wp2;go_ret;exact⟨zfv E.out,rfl⟩
theorem yaax (f:Nat->Bool)(k:Nat)(w:World) :
  Calls qab 67 #[je jg (setW f k)] w fun e w'=>e=.returned (je jd (cnt (fun j=>f (64*k+j)) 64:Nat))/\w=w':=by
 have h:=yaiq (setW f k) w (zem f k) (zfw f k);rw[z9o (g:=fun j=>f (64*k+j)) fun j hj=>zfi f k j hj] at h;exact h
theorem yair (f:Nat->Bool):cnt f 256=cnt (fun j=>f (64*0+j)) 64+cnt (fun j=>f (64*1+j)) 64+cnt (fun j=>f (64*2+j)) 64+cnt (fun j=>f (64*3+j)) 64:=by
 have h1:cnt f 256=cnt f 64+cnt (fun i=>f (64+i)) 192:=yac6 f 64 192;have h2:cnt (fun i=>f (64+i)) 192=cnt (fun i=>f (64+i)) 64+cnt (fun i=>f (64+(64+i))) 128:=yac6 (fun i=>f (64+i)) 64 128;have h3:cnt (fun i=>f (64+(64+i))) 128=cnt (fun i=>f (64+(64+i))) 64+cnt (fun i=>f (64+(64+(64+i)))) 64:=yac6 (fun i=>f (64+(64+i))) 64 64;have e0:cnt (fun j=>f (64*0+j)) 64=cnt f 64:=z9o fun i _=>congrArg f U
 have e1:cnt (fun j=>f (64*1+j)) 64=cnt (fun i=>f (64+i)) 64:=z9o fun i _=>congrArg f U
 have e2:cnt (fun j=>f (64*2+j)) 64=cnt (fun i=>f (64+(64+i))) 64:=z9o fun i _=>congrArg f U
 have e3:cnt (fun j=>f (64*3+j)) 64=cnt (fun i=>f (64+(64+(64+i)))) 64:=z9o fun i _=>congrArg f U
 omega
theorem yagt (f:Nat->Bool)(w:World) :
  Calls qab 36 #[.agg #[je jg (setW f 0),je jg (setW f 1),je jg (setW f 2),je jg (setW f 3)]] w fun e w'=>e=.returned (je jd (cnt f 256:Nat))/\Below w.heap.size w w':=by
 have i0:=ix0;have i1:=ix1;have i2:=ix2;have i3:=ix3;have hs:=qaa (yair f);have b0:=yae6 (fun j=>f (64*0+j)) 64;have b1:=yae6 (fun j=>f (64*1+j)) 64;have b2:=yae6 (fun j=>f (64*2+j)) 64;have b3:=yae6 (fun j=>f (64*3+j)) 64;obtain⟨n0,g0⟩:∃n,n=cnt (fun j=>f (64*0+j)) 64:=⟨_,rfl⟩;obtain⟨n1,g1⟩:∃n,n=cnt (fun j=>f (64*1+j)) 64:=⟨_,rfl⟩;obtain⟨n2,g2⟩:∃n,n=cnt (fun j=>f (64*2+j)) 64:=⟨_,rfl⟩;obtain⟨n3,g3⟩:∃n,n=cnt (fun j=>f (64*3+j)) 64:=⟨_,rfl⟩;have h0:=qaa (yaax f 0);have h1:=qaa (yaax f 1);have h2:=qaa (yaax f 2);have h3:=qaa (yaax f 3);rw[<-g0] at b0 h0 hs;rw[<-g1] at b1 h1 hs;rw[<-g2] at b2 h2 hs;rw[<-g3] at b3 h3 hs;clear g0 g1 g2 g3;go_enter Tryz.func36,Tryz.ntmps36;go_wp2;refine wp_loop_rounds 5 ?_;rw[rounds_succ];go_wp2_with (refine(h0.out _).mono ?_;rintro e w1 ⟨rfl,rfl⟩);rw[rounds_succ];go_wp2_with (refine(h1.out _).mono ?_;rintro e w1 ⟨rfl,rfl⟩);rw[rounds_succ];go_wp2_with (refine(h2.out _).mono ?_;rintro e w1 ⟨rfl,rfl⟩);rw[rounds_succ];go_wp2_with (refine(h3.out _).mono ?_;rintro e w1 ⟨rfl,rfl⟩);rw[rounds_succ];go_wp2;go_ret;exact⟨zfv (by rw[hs.out];omega),by go_grown⟩
end
section
open Go.RowKit
def SetAt (f:Nat->Bool)(B:Nat)(w:World):Prop:=∀j,j<4->w.cell? ⟨B,j,none⟩=some (je jg (setW f j))/\w.frozen? ⟨B,j,none⟩=false
theorem SetAt.drew {f:Nat->Bool}(h:SetAt f B w):SetAt f B w.drew:=fun j hj=>by simpa using h j hj
theorem SetAt.congr {f g:Nat->Bool}(h:SetAt f B w)(e:∀i,i<256->f i=g i):SetAt g B w:=fun j hj=>by
 rw[<-ziw hj e];exact h j hj
theorem SetAt.below {f:Nat->Bool}(h:SetAt f B w)(hb:Below n w w')(hB:B<n):SetAt f B w':=fun j hj=>
 ⟨(hb.cell (p:=⟨B,j,none⟩) hB).trans (h j hj).1,(hb.frozen (p:=⟨B,j,none⟩) hB).trans (h j hj).2⟩
theorem SetAt.four {f:Nat->Bool}(h:SetAt f B w) :
  (w.cell? ⟨B,0,none⟩=some (je jg (setW f 0))/\w.cell? ⟨B,1,none⟩=some (je jg (setW f 1))/\w.cell? ⟨B,2,none⟩=some (je jg (setW f 2))/\w.cell? ⟨B,3,none⟩=some (je jg (setW f 3)))
   /\ (w.frozen? ⟨B,0,none⟩=false/\w.frozen? ⟨B,1,none⟩=false/\w.frozen? ⟨B,2,none⟩=false/\w.frozen? ⟨B,3,none⟩=false):=
 ⟨⟨(h 0 U).1,(h 1 U).1,(h 2 U).1,(h 3 U).1⟩,⟨(h 0 U).2,(h 1 U).2,(h 2 U).2,(h 3 U).2⟩⟩
theorem SetAt.new {f:Nat->Bool}{d:Int}(hB:B=w.heap.size)(h0:a=setW f 0)(h1:b=setW f 1)(h2:c=setW f 2)(h3:d=setW f 3) :
  SetAt f B (w.alloc (.cells #[je jg a,je jg b,je jg c,je jg d] t)):=fun j hj=>by
 subst hB h0 h1 h2 h3;have:j=0∨j=1∨j=2∨j=3:=U
 rcases this with rfl|rfl|rfl|rfl<;>simp
def ins (f:Nat->Bool)(k:Nat):Nat->Bool:=fun i=>f i || i == k
theorem zy9 (k:Nat):IntKind.u64.wrap (2 ^ (k%64))=setW (fun i=>i == k) (k/64):=by
 have hp:(2:Nat) ^ (k%64)<2 ^ 64:=Nat.pow_lt_pow_right U U;have e:(2:Int) ^ (k%64)=((2 ^ (k%64):Nat):Int):=by rw[Int.natCast_pow];rfl
 generalize hq:(2:Nat) ^ (k%64)=q at hp e;rw[e,zo0 _ U U];refine zib U U fun j hj=>?_
 rw[qa8,<-hq,Nat.testBit_two_pow];rw[qcd];simp;omega
theorem zq0 (f:Nat->Bool)(k:Nat):bits BinOp.or IntKind.u64 (setW f (k/64)) (IntKind.u64.wrap (2 ^ (k%64)))=setW (ins f k) (k/64):=by
 rw[zy9,zix];rfl
theorem SetAt.put {f:Nat->Bool}{v:Int}(h:SetAt f B w)(hv:v=setW (ins f k) (k/64)):SetAt (ins f k) B (w.setCell ⟨B,k/64,none⟩ (je jg v)):=fun j hj=>by
 subst hv;refine⟨?_,by rw[World.frozen?_setCell];exact(h j hj).2⟩;by_cases e:j=k/64
 ·subst e;exact World.cell?_setCell_same' _ _ _ (by rw[(h _ hj).1];rfl)
 ·rw[World.cell?_setCell_other (h:=by intro hh;injection hh with _ h2;exact e h2.symm),(h j hj).1]
  congr 2;refine zde fun i hi=>?_
  have:(64*j+i == k)=false:=by rw[beq_eq_false_iff_ne];omega
  unfold ins;rw[this];simp
def inR (lo hi:Nat):Nat->Bool:=fun i=>decide (lo<=i)&&decide (i<hi)
theorem zid (lo k:Nat):setW (inR lo lo) k=0:=by
 have:inR lo lo=fun _=>false:=by funext i;unfold inR;simp
 rw[this,zcc]
theorem z3o (lo k i:Nat)(h:lo<=k):ins (inR lo k) k i=inR lo (k+1) i:=by
 unfold ins inR;rw[qcd];simp;omega
theorem zuo (lo hi:Int)(w:World)(h0:0<=lo)(h1:lo<=255)(h2:0<=hi)(h3:hi<=255) :
  Calls qab 147 #[je jl lo,je jl hi] w
   fun e w'=>e=.returned (.agg #[je jg (setW (inR lo.toNat (hi.toNat+1)) 0),je jg (setW (inR lo.toNat (hi.toNat+1)) 1),je jg (setW (inR lo.toNat (hi.toNat+1)) 2),je jg (setW (inR lo.toNat (hi.toNat+1)) 3)])/\Below w.heap.size w w':=by
 go_enter Tryz.func147,Tryz.ntmps147;go_wp2
 go_loopw [6] (fun c wr=>∃k:Nat,lo.toNat<=k/\(k<=lo.toNat∨k<=hi.toNat+1)/\c=je jd k/\SetAt (inR lo.toNat k) (w.heap.size+1) wr/\Below (w.heap.size+1) (w.alloc (.cells #[je jg 0,je jg 0,je jg 0,je jg 0] 41)) wr/\w.heap.size+1<wr.heap.size) (fun c _=>(256-(intOf c).toNat))
 case atStart=>
  exact⟨lo.toNat,qac _,.inl (qac _),by congr 1;omega,SetAt.new jc (zid _ _).symm (zid _ _).symm (zid _ _).symm (zid _ _).symm,(qaf _ _).alloc jc _,jc⟩
 case round=>
  obtain⟨k,hk1,hk2,rfl,hs,hb,hz⟩:=hrel;by_cases hlt:(k:Int)<=hi
  ·have hc:=(hs (k/64) U).1
   have hf:=(hs (k/64) U).2;go_wp2
   go_region
   go_wp2;go_roundw
   case rel=>exact⟨k+1,U,.inr U,by go_num,((hs.put (zq0 _ _)).congr fun i _=>z3o _ _ _ hk1).drew,(hb.setCell (qac _) _).drew,by simpa using hz⟩
   case measure=>simp[intOf];omega
  ·have e:setW (inR lo.toNat k)=setW (inR lo.toNat (hi.toNat+1)):=by
    by_cases hle:k=hi.toNat+1
    ·rw[hle]
    ·have:inR lo.toNat k=inR lo.toNat (hi.toNat+1):=by
      funext i;unfold inR;rw[qcd];simp;omega
     rw[this]
   have e0:=congrFun e 0;have e1:=congrFun e 1;have e2:=congrFun e 2;have e3:=congrFun e 3;have E0:=qaa e0;have E1:=qaa e1;have E2:=qaa e2;have E3:=qaa e3;clear e e0 e1 e2 e3;obtain⟨⟨c0,c1,c2,c3⟩,-⟩:=hs.four;obtain⟨d0,d1,d2,d3⟩:=zqz hb U;obtain⟨-,hfz⟩:=bcell hb;go_wp2;refine bodyPost_ret (v:=.agg #[je jg (setW (inR lo.toNat k) 0),je jg (setW (inR lo.toNat k) 1),je jg (setW (inR lo.toNat k) 2),je jg (setW (inR lo.toNat k) 3)]) (by simp[results,Tryz.results147,go_sem,d0,d1,d2,d3]) rfl ⟨zo1 E0.out E1.out E2.out E3.out,?_⟩;exact((((((qaf _ w).alloc (qac _) _).trans (hb.mono U)).setCell (qac _) _).setCell (qac _) _).setCell (qac _) _).setCell (qac _) _
end
section
open Go.RowKit
def lset (l:List Int):Nat->Bool:=fun i=>l.any fun x=>i == x.toNat
theorem zmz (l:List Int)(x:Int):lset (l++[x])=ins (lset l) x.toNat:=by
 funext i;unfold lset ins;rw[List.any_append];simp
theorem z59 (l:List Int)(v:Value)(w:World)(hv:RowAt w v (l.map (Value.int .u8)))(hl:∀x,x ∈ l->0<=x/\x<=255)(hn:l.length<=9223372036854775807) :
  Calls qab 167 #[v] w
   fun e w'=>e=.returned (.agg #[je jg (setW (lset l) 0),je jg (setW (lset l) 1),je jg (setW (lset l) 2),je jg (setW (lset l) 3)])/\Below w.heap.size w w':=by
 obtain⟨a,cap,rfl,hcs⟩:=hv;rw[qaw];have HC:=qaa hcs;have HL:=qaa hl;clear hcs hl;go_enter Tryz.func167,Tryz.ntmps167;go_wp2
 go_loopw [8] (fun c wr=>∃k:Nat,k<=l.length/\c=je jd k/\SetAt (lset (l.take k)) (w.heap.size+1) wr/\Below (w.heap.size+1) (w.alloc (.cells #[je jg 0,je jg 0,je jg 0,je jg 0] 41)) wr/\w.heap.size+1<wr.heap.size) (fun c _=>(l.length-(intOf c).toNat))
 case atStart=>
  have e:lset (l.take 0)=fun _=>false:=by funext i;simp[lset]
  exact⟨0,Nat.zero_le _,rfl,by rw[e];exact SetAt.new jc (zcc _).symm (zcc _).symm (zcc _).symm (zcc _).symm,(qaf _ _).alloc jc _,jc⟩
 case round=>
  obtain⟨k,hk,rfl,hs,hb,hz⟩:=hrel;by_cases hlt:k<l.length
  ·obtain⟨x,hx⟩:∃x,l[k]?=some x:=⟨l[k],by simp[hlt]⟩
   obtain⟨hx0,hx1⟩:=HL.out x (List.mem_of_getElem? hx);obtain⟨n,rfl⟩:=qco hx0;obtain⟨b,off,rfl,hcell⟩:=HC.out.resolve_left (by intro h;rw[List.map_eq_nil_iff] at h;rw[h] at hlt;simp at hlt);have hc0:=hcell k (je jl n) (by rw[qax,hx];rfl);have hblk:=block_lt_of_cell hc0;have hc1:wr.cell? ⟨b,off+k,none⟩=some (je jl n):=by
    rw[(bcell hb).1 b _ (by simpa using Nat.lt_succ_of_lt hblk),World.cell?_alloc_lt (h:=hblk)];exact hc0
   have hc:=(hs (n/64) U).1;have hf:=(hs (n/64) U).2;have ht:=qaa (za3 l k _ hx);clear hc0 hcell hx;go_wp2;go_roundw
   case rel=>
    have hs':=hs.put (zq0 _ n);exact⟨k+1,U,by go_num,by rw[ht.out,zmz];exact hs',hb.setCell (qac _) _,by simpa using hz⟩
   case measure=>simp[intOf];omega
  ·have e:l.take k=l:=List.take_of_length_le U
   rw[e] at hs;obtain⟨⟨c0,c1,c2,c3⟩,-⟩:=hs.four;obtain⟨d0,d1,d2,d3⟩:=zqz hb U;obtain⟨-,hfz⟩:=bcell hb;clear e HC HL;go_wp2;refine bodyPost_ret (v:=.agg #[je jg (setW (lset l) 0),je jg (setW (lset l) 1),je jg (setW (lset l) 2),je jg (setW (lset l) 3)]) (by simp[results,Tryz.results167,go_sem,d0,d1,d2,d3]) rfl ⟨rfl,?_⟩;exact((((((qaf _ w).alloc (qac _) _).trans (hb.mono U)).setCell (qac _) _).setCell (qac _) _).setCell (qac _) _).setCell (qac _) _
theorem yakf (f:Nat->Bool)(i:Nat):(setW f (i/64)/2 ^ (i%64)%2 == 1)=f i:=by
 have hlo:=zem f (i/64);have hhi:=zfw f (i/64);have hb:=zfi f (i/64) (i%64) U;rw[show 64*(i/64)+i%64=i from by omega] at hb;rw[<-hb];obtain⟨n,hn⟩:=qco hlo;rw[hn,qa8];have e:((n:Int)/2 ^ (i%64))=((n/2 ^ (i%64):Nat):Int):=by
  rw[Int.natCast_ediv,Int.natCast_pow];rfl
 rw[e,Nat.testBit,Nat.shiftRight_eq_div_pow,Nat.and_comm 1];rw[qcd];simp only[beq_iff_eq,bne_iff_ne,ne_eq,Nat.and_one_is_mod];omega
theorem half (x:Int)(k:Nat):x/2 ^ (k+1)=x/2 ^ k/2:=by
 rw[Int.pow_succ,Int.ediv_ediv_of_nonneg (Int.pow_nonneg U)]
theorem yais (f:Nat->Bool)(c:Int)(w:World)(h0:0<=c)(h1:c<=255) :
  Calls qab 76 #[.agg #[je jg (setW f 0),je jg (setW f 1),je jg (setW f 2),je jg (setW f 3)],je jl c] w fun e w'=>e=.returned (ji (f c.toNat))/\Below w.heap.size w w':=by
 obtain⟨i,rfl⟩:=qco h0;have hi:[Value.int IntKind.u64 (setW f 0),Value.int IntKind.u64 (setW f 1),Value.int IntKind.u64 (setW f 2),Value.int IntKind.u64 (setW f 3)][i/64]?=some (je jg (setW f (i/64))):=by
  have:i/64=0∨i/64=1∨i/64=2∨i/64=3:=U
  rcases this with h|h|h|h<;>rw[h]<;>rfl
 have hm:=qaa (yakf f i);have l0:=qaa (zem f (i/64));have l1:=qaa (zfw f (i/64));go_enter Tryz.func76,Tryz.ntmps76;go_wp2
 go_loop [5,6] (fun x j=>∃k:Nat,k<=i%64/\j=je jd k/\x=je jg (setW f (i/64)/2 ^ k)) (fun _ j=>(64-(intOf j).toNat))
 case atStart=>exact⟨0,Nat.zero_le _,rfl,jc⟩
 case round=>
  obtain⟨k,hk,rfl,rfl⟩:=hrel;have hx0:0<=setW f (i/64)/2 ^ k:=Int.ediv_nonneg l0.out (Int.pow_nonneg U);have hx1:setW f (i/64)/2 ^ k<=18446744073709551615:=Int.le_trans (Int.ediv_le_self _ l0.out) l1.out;have he:=half (setW f (i/64)) k;obtain⟨x,hx⟩:∃x,x=setW f (i/64)/2 ^ k:=⟨_,rfl⟩;rw[<-hx] at hx0 hx1 he ⊢;have HE:=qaa he;have HX:=qaa hx;clear hx he;by_cases hlt:k<i%64
  ·go_wp2
   go_round
   case rel=>exact⟨k+1,U,by go_num,by rw[HE.out]⟩
   case measure=>simp[intOf];omega
  ·go_wp2
   go_ret;refine⟨zap ?_,by go_grown⟩;rw[HX.out,show k=i%64 from by omega];exact hm.out
end
section
open Go.RowKit
def WAt (g:Nat->Int)(B:Nat)(w:World):Prop:=∀j,j<4->w.cell? ⟨B,j,none⟩=some (je jg (g j))/\w.frozen? ⟨B,j,none⟩=false
theorem WAt.put {g:Nat->Int}{v:Int}(h:WAt g B w):WAt (fun j=>if j=k then v else g j) B (w.setCell ⟨B,k,none⟩ (je jg v)):=fun j hj=>by
 refine⟨?_,by rw[World.frozen?_setCell];exact(h j hj).2⟩;by_cases e:j=k
 ·subst e;simp only[if_true];exact World.cell?_setCell_same' _ _ _ (by rw[(h _ hj).1];rfl)
 ·simp only[e,if_false];rw[World.cell?_setCell_other (h:=by intro hh;injection hh with _ h2;exact e h2.symm),(h j hj).1]
theorem WAt.congr {g g':Nat->Int}(h:WAt g B w)(e:∀j,j<4->g j=g' j):WAt g' B w:=fun j hj=>by
 rw[<-e j hj];exact h j hj
def part (f:Nat->Bool)(i m:Nat):Nat->Int:=fun j=>if j<i then setW f j else if j=i then setW f i/2 ^ m else 0
theorem zza (f:Nat->Bool)(i m:Nat)(hm:m<64):setW f i/2 ^ m=setW f i/2 ^ (m+1)*2+(f (64*i+m)).toNat:=by
 have hb:=zfi f i m hm;have hlo:=zem f i;obtain⟨n,hn⟩:=qco hlo;rw[half,hn];rw[hn,qa8,Nat.testBit,Nat.shiftRight_eq_div_pow,Nat.and_comm 1,Nat.and_one_is_mod] at hb;have e:((n:Int)/2 ^ m)=((n/2 ^ m:Nat):Int):=by
  rw[Int.natCast_ediv,Int.natCast_pow];rfl
 rw[e];generalize n/2 ^ m=q at *;rw[<-hb];rcases Nat.mod_two_eq_zero_or_one q with h|h<;>rw[h]<;>simp<;>omega
theorem zup (f:Nat->Bool)(i:Nat):setW f i/2 ^ 64=0:=by
 have:=zem f i;have:=zfw f i;omega
theorem zuq (f:Nat->Bool)(i:Nat)(j:Nat):part f i 0 j=part f (i+1) 64 j:=by
 unfold part;by_cases h1:j<i
 ·rw[if_pos h1,if_pos U]
 ·by_cases h2:j=i
  ·subst h2;simp
  ·rw[if_neg h1,if_neg h2,if_neg U]
   split
   ·exact(zup f _).symm
   ·rfl
theorem z3p (f:Nat->Bool)(b off cap:Nat)(w:World)(hb0:b<w.heap.size)(hc:∀j,j<256->w.cell? ⟨b,off+j,none⟩=some (ji (f j))) :
  Calls qab 157 #[jf (some ⟨b,off,none⟩) 256 cap] w
   fun e w'=>e=.returned (.agg #[je jg (setW f 0),je jg (setW f 1),je jg (setW f 2),je jg (setW f 3)])/\Below w.heap.size w w':=by
 have HC:=qaa hc;clear hc;go_enter Tryz.func157,Tryz.ntmps157;go_wp2
 go_loopw [4] (fun c wr=>∃i:Nat,i<=4/\c=je jd i/\WAt (part f i 64) (w.heap.size+1) wr/\Below (w.heap.size+1) (w.alloc (.cells #[je jg 0,je jg 0,je jg 0,je jg 0] 41)) wr/\w.heap.size+1<wr.heap.size) (fun c _=>(4-(intOf c).toNat))
 case atStart=>
  refine⟨0,U,rfl,?_,(qaf _ _).alloc jc _,jc⟩;intro j hj;have e:part f 0 64 j=0:=by
   unfold part;rw[if_neg U];split
   ·exact zup f _
   ·rfl
  rw[e];have:j=0∨j=1∨j=2∨j=3:=U
  rcases this with rfl|rfl|rfl|rfl<;>simp
 case round=>
  obtain⟨i,hi,rfl,hs,hb,hz⟩:=hrel;by_cases hlt:i<4
  ·go_wp2
   obtain⟨wo,rfl⟩:∃wo:World,wo=wr:=⟨_,rfl⟩
   go_loopw [5] (fun c wr=>∃m:Nat,m<=64/\c=je jd ((m:Int)-1)/\WAt (part f i m) (w.heap.size+1) wr/\Below (w.heap.size+1) (w.alloc (.cells #[je jg 0,je jg 0,je jg 0,je jg 0] 41)) wr/\w.heap.size+1<wr.heap.size) (fun c _=>(intOf c+1).toNat)
   case atStart=>exact⟨64,U,jc,hs,hb,hz⟩
   case round=>
    obtain⟨m,hm,rfl,hs,hb,hz⟩:=hrel;by_cases h0:m=0
    ·subst h0
     go_wp2;exact⟨⟨i+1,U,by go_num,hs.congr fun j _=>zuq f i j,hb,hz⟩,by simp[intOf];omega⟩
    ·obtain⟨m,rfl⟩:∃n,m=n+1:=⟨m-1,U⟩
     have hc0:=(hs i hlt).1;have hf0:=(hs i hlt).2;have hst:=zza f i m U;have hcell:wr.cell? ⟨b,off+(64*i+m),none⟩=some (ji (f (64*i+m))):=by
      rw[(bcell hb).1 b _ U,World.cell?_alloc_lt (h:=hb0)];exact HC.out _ U
     have hpx:part f i (m+1) i=setW f i/2 ^ (m+1):=by unfold part;simp
     have hx0:0<=setW f i/2 ^ (m+1):=Int.ediv_nonneg (zem _ _) (Int.pow_nonneg U);have hx1:setW f i/2 ^ m<=18446744073709551615:=Int.le_trans (Int.ediv_le_self _ (zem _ _)) (zfw _ _);rw[hst] at hx1;have hnew:∀v,v=setW f i/2 ^ m->∀j,j<4->(if j=i then v else part f i (m+1) j)=part f i m j:=by
      intro v hv j _;subst hv;unfold part;by_cases e:j=i
      ·subst e;simp
      ·simp[e]
     have HN:=qaa hnew;have HS:=qaa hst;rw[hpx] at hc0;clear hnew hst hpx;generalize setW f i/2 ^ (m+1)=x at *;cases hbit:f (64*i+m)
     ·rw[hbit] at HS hx1 hcell
      have hx2:x*2<=18446744073709551615:=by simpa using hx1
      go_wp2;exact⟨⟨m,U,by go_num,hs.put.congr (HN.out _ (by rw[HS.out];simp)),hb.setCell (qac _) _,by simpa using hz⟩,by simp[intOf]⟩
     ·rw[hbit] at HS hx1 hcell
      have hx2:x*2+1<=18446744073709551615:=by simpa using hx1
      go_wp2;exact⟨⟨m,U,by go_num,(hs.put.put (k:=i)).congr (fun j hj=>by rw[<-HN.out (x*2+1) (by rw[HS.out];simp) j hj];split<;>rfl),(hb.setCell (qac _) _).setCell (qac _) _,by simpa using hz⟩,by simp[intOf]⟩
  ·obtain rfl:i=4:=U
   have hs4:SetAt f (w.heap.size+1) wr:=fun j hj=>by
    have:=hs j hj;unfold part at this;rw[if_pos hj] at this;exact this
   obtain⟨⟨c0,c1,c2,c3⟩,-⟩:=hs4.four;obtain⟨d0,d1,d2,d3⟩:=zqz hb U;obtain⟨-,hfz⟩:=bcell hb;clear HC hs hs4;go_wp2;refine bodyPost_ret (v:=.agg #[je jg (setW f 0),je jg (setW f 1),je jg (setW f 2),je jg (setW f 3)]) (by simp[results,Tryz.results157,go_sem,d0,d1,d2,d3]) rfl ⟨rfl,?_⟩;exact((((((qaf _ w).alloc (qac _) _).trans (hb.mono U)).setCell (qac _) _).setCell (qac _) _).setCell (qac _) _).setCell (qac _) _
theorem zo2 (f:Nat->Bool)(v:Value)(w:World)(hv:RowAt w v ((List.range 256).map fun i=>ji (f i))) :
  Calls qab 157 #[v] w
   fun e w'=>e=.returned (.agg #[je jg (setW f 0),je jg (setW f 1),je jg (setW f 2),je jg (setW f 3)])/\Below w.heap.size w w':=by
 obtain⟨a,cap,rfl,hcs⟩:=hv;obtain⟨b,off,rfl,hc⟩:=hcs.resolve_left jc;have hg:∀j,j<256->w.cell? ⟨b,off+j,none⟩=some (ji (f j)):=fun j hj=>hc j _ (by rw[qax,List.getElem?_range hj];rfl)
 rw[qaw,List.length_range];exact z3p f b off cap w (block_lt_of_cell (hg 0 U)) hg
end
section
open Go.RowKit
def BAt (f:Nat->Bool)(B:Nat)(w:World):Prop:=∀j,j<256->w.cell? ⟨B,j,none⟩=some (ji (f j))/\w.frozen? ⟨B,j,none⟩=false
theorem BAt.put {f:Nat->Bool}(h:BAt f B w):BAt (ins f k) B (w.setCell ⟨B,k,none⟩ (ji true)):=fun j hj=>by
 refine⟨?_,by rw[World.frozen?_setCell];exact(h j hj).2⟩;unfold ins;by_cases e:j=k
 ·subst e;rw[World.cell?_setCell_same' _ _ _ (by rw[(h _ hj).1];rfl)];simp
 ·rw[World.cell?_setCell_other (h:=by intro hh;injection hh with _ h2;exact e h2.symm),(h j hj).1]
  have:(j == k)=false:=by rw[beq_eq_false_iff_ne];exact e
  rw[this];simp
def Four (B:Nat)(w:World)(x y z u:Value):Prop:=
 (w.cell? ⟨B,0,none⟩=some x/\w.cell? ⟨B,1,none⟩=some y/\w.cell? ⟨B,2,none⟩=some z/\w.cell? ⟨B,3,none⟩=some u)/\∀o,w.frozen? ⟨B,o,none⟩=false
theorem Four.new (w:World)(x y z u:Value)(t:TypeId):Four w.heap.size (w.alloc (.cells #[x,y,z,u] t)) x y z u:=by
 unfold Four;refine⟨⟨?_,?_,?_,?_⟩,fun o=>?_⟩<;>simp
theorem Four.below {x y z u:Value}(h:Four B w x y z u)(hb:Below n w w')(hB:B<n):Four B w' x y z u:=by
 obtain⟨⟨h0,h1,h2,h3⟩,hf⟩:=h;exact⟨⟨(hb.cell (p:=⟨B,0,none⟩) hB).trans h0,(hb.cell (p:=⟨B,1,none⟩) hB).trans h1,(hb.cell (p:=⟨B,2,none⟩) hB).trans h2,(hb.cell (p:=⟨B,3,none⟩) hB).trans h3⟩,fun o=>(hb.frozen (p:=⟨B,o,none⟩) hB).trans (hf o)⟩
def falses:Array Value:=Array.replicate 256 (ji false)
theorem mk256 (w:World):(Instr.makeSlice 236 (je jd 256) (je jd 256)).run qab w=.ok (jf (some ⟨w.heap.size,0,none⟩) 256 256) (w.alloc (.cells falses 4)):=jb
theorem zur (l:List Int)(v:Value)(w:World)(hv:RowAt w v (l.map (Value.int .u8)))(hl:∀x,x ∈ l->0<=x/\x<=255)(hn:l.length<=9223372036854775807) :
  Calls qab 161 #[v] w
   fun e w'=>e=.returned (.agg #[je jg (setW (lset l) 0),je jg (setW (lset l) 1),je jg (setW (lset l) 2),je jg (setW (lset l) 3)])/\Below w.heap.size w w':=by
 obtain⟨a,cap,rfl,hcs⟩:=hv;rw[qaw];have HC:=qaa hcs;have HL:=qaa hl;clear hcs hl;have hmk:=mk256;go_enter Tryz.func161,Tryz.ntmps161;go_wp2
 go_loopw [4] (fun c wr=>∃k:Nat,k<=l.length/\c=je jd k/\BAt (lset (l.take k)) (w.heap.size+1) wr/\Below (w.heap.size+1) (w.alloc (.cells #[je jg 0,je jg 0,je jg 0,je jg 0] 41)) wr/\w.heap.size+1<wr.heap.size) (fun c _=>(l.length-(intOf c).toNat))
 case atStart=>
  have e:lset (l.take 0)=fun _=>false:=by funext i;simp[lset]
  refine⟨0,Nat.zero_le _,rfl,?_,(qaf _ _).alloc jc _,jc⟩;rw[e];intro j hj;have hf:falses[j]?=some (ji false):=by unfold falses;simp[hj]
  rw[World.cell?_alloc_at _ _ _ _ jc,hf,World.frozen?_alloc_at _ _ _ _ jc];exact⟨rfl,rfl⟩
 case round=>
  obtain⟨k,hk,rfl,hs,hb,hz⟩:=hrel;by_cases hlt:k<l.length
  ·obtain⟨x,hx⟩:∃x,l[k]?=some x:=⟨l[k],by simp[hlt]⟩
   obtain⟨hx0,hx1⟩:=HL.out x (List.mem_of_getElem? hx);obtain⟨n,rfl⟩:=qco hx0;obtain⟨b,off,rfl,hcell⟩:=HC.out.resolve_left (by intro h;rw[List.map_eq_nil_iff] at h;rw[h] at hlt;simp at hlt);have hc0:=hcell k (je jl n) (by rw[qax,hx];rfl);have hblk:=block_lt_of_cell hc0;have hc1:wr.cell? ⟨b,off+k,none⟩=some (je jl n):=by
    rw[(bcell hb).1 b _ (by simpa using Nat.lt_succ_of_lt hblk),World.cell?_alloc_lt (h:=hblk)];exact hc0
   have hc:=(hs n U).1;have hf:=(hs n U).2;have ht:=qaa (za3 l k _ hx);clear hc0 hcell hx;go_wp2;go_roundw
   case rel=>
    have hs':=hs.put (k:=n);exact⟨k+1,U,by go_num,by rw[ht.out,zmz];exact hs',hb.setCell (qac _) _,by simpa using hz⟩
   case measure=>simp[intOf];omega
  ·have e:l.take k=l:=List.take_of_length_le U
   rw[e] at hs;have h4:=(Four.new w (je jg 0) (je jg 0) (je jg 0) (je jg 0) 41).below hb (Nat.lt_succ_self _);have hr:RowAt wr (jf (some ⟨w.heap.size+1,0,none⟩) 256 256) ((List.range 256).map fun i=>ji (lset l i)):=
    ⟨_,256,by rw[qaw,List.length_range],.inr ⟨_,_,rfl,fun i c hc=>by
     rw[qax] at hc;by_cases hi:i<256
     ·rw[List.getElem?_range hi] at hc;cases hc;simpa using (hs i hi).1
     ·rw[List.getElem?_eq_none (by simp;omega)] at hc;cases hc⟩⟩
   have h:=qaa (zo2 (lset l) _ wr hr);clear e HC HL hr hs
   go_wp2_with fail
   refine h.out.mono ?_;rintro e w1 ⟨rfl,hb1⟩;obtain⟨⟨d0,d1,d2,d3⟩,hfr⟩:=h4.below hb1 U;clear h h4;go_wp2;refine bodyPost_ret (v:=.agg #[je jg (setW (lset l) 0),je jg (setW (lset l) 1),je jg (setW (lset l) 2),je jg (setW (lset l) 3)]) (by simp[results,Tryz.results161,go_sem,d0,d1,d2,d3]) rfl ⟨rfl,?_⟩;exact(((((((qaf _ w).alloc (qac _) _).trans (hb.mono U)).trans (hb1.mono U)).setCell (qac _) _).setCell (qac _) _).setCell (qac _) _).setCell (qac _) _
theorem Tryz.infoBool:(qab.info? 4).map (fun i=>(i.zero,i.size,i.bytes))=some (some (ji false),1,1):=jb
def bools (f:Nat->Bool)(k:Nat):List Value:=(List.range k).map fun i=>ji (f i)
theorem zus (f:Nat->Bool)(k:Nat):(bools f k).length=k:=by unfold bools;simp
theorem zg7 (f:Nat->Bool)(k:Nat):bools f (k+1)=bools f k++[ji (f k)]:=by
 unfold bools;rw[List.range_succ,qa5];rfl
def rin (lo hi:Int):Nat->Bool:=fun i=>decide (lo<=(i:Int))&&decide ((i:Int)<=hi)
theorem zm0 {lo hi:Int}{k:Nat}(h:¬(lo<=(k:Int)/\(k:Int)<=hi)):rin lo hi k=false:=by
 unfold rin;rw[Bool.and_eq_false_iff];simp;omega
theorem zq1 {lo hi:Int}{k:Nat}(h:lo<=(k:Int)/\(k:Int)<=hi):rin lo hi k=true:=by
 unfold rin;simp;omega
theorem zsl (lo hi:Int)(w:World) :
  Calls qab 160 #[je jd lo,je jd hi] w
   fun e w'=>e=.returned (.agg #[je jg (setW (rin lo hi) 0),je jg (setW (rin lo hi) 1),je jg (setW (rin lo hi) 2),je jg (setW (rin lo hi) 3)])/\Below w.heap.size w w':=by
 obtain⟨i0,hi0,hz0,hz1,hz2⟩:=info_parts Tryz.infoBool;go_enter Tryz.func160,Tryz.ntmps160;go_wp2
 go_loopw [5,6] (fun v c wr=>∃k:Nat,k<=256/\c=je jd k/\wr.ownsRow (w.heap.size+1) 4 1 v k (bools (rin lo hi) k)/\Below (w.heap.size+1) (w.alloc (.cells #[je jg 0,je jg 0,je jg 0,je jg 0] 41)) wr/\w.heap.size<wr.heap.size) (fun _ c _=>(256-(intOf c).toNat))
 case atStart=>
  exact⟨0,Nat.zero_le _,rfl,qav _ _ _ _,qaf _ _,jc⟩
 case round=>
  obtain⟨k,hk,rfl,hs,hb,hz⟩:=hrel;by_cases hlt:k<256
  ·by_cases h1:lo<=(k:Int)
   ·by_cases h2:(k:Int)<=hi
    ·have hv:(Value.bool true)=ji (rin lo hi k):=by rw[zq1 ⟨h1,h2⟩]
     have HV:=qaa hv;clear hv
     go_wp2_with (at_builtin;refine wpList_append_own _ rfl _ _ 236 rfl (w.heap.size+1) 4 i0 (ji false) 1 1 Tryz.underlying236 hi0 hz0 hz1 hz2 rfl ja _ _ _ rfl (hs.alloc _) ⟨wr.heap.size,0,none⟩ 1 1 [ji true] rfl rfl (zat _ _ _) (by simp[Value.oneCell']) (by unfold maxLen;omega) U (by simp;omega) ?_;intro v' w1 hown' hgrow _)
     have hv:=HV.out;have hsz:=hgrow.size;rw[qbl] at hsz;rw[hv,<-zg7] at hown';have hb':=(hb.alloc U (.cells #[_] 4)).grown hgrow (by simp;omega) (fun k e=>(hs.lt k e).1);exact⟨⟨k+1,U,by go_num,hown',hb',U⟩,by simp[intOf];omega⟩
    ·have hv:(Value.bool false)=ji (rin lo hi k):=by rw[zm0 fun h=>h2 h.2]
     have HV:=qaa hv;clear hv
     go_wp2_with (at_builtin;refine wpList_append_own _ rfl _ _ 236 rfl (w.heap.size+1) 4 i0 (ji false) 1 1 Tryz.underlying236 hi0 hz0 hz1 hz2 rfl ja _ _ _ rfl (hs.alloc _) ⟨wr.heap.size,0,none⟩ 1 1 [ji false] rfl rfl (zat _ _ _) (by simp[Value.oneCell']) (by unfold maxLen;omega) U (by simp;omega) ?_;intro v' w1 hown' hgrow _)
     have hv:=HV.out;have hsz:=hgrow.size;rw[qbl] at hsz;rw[hv,<-zg7] at hown';have hb':=(hb.alloc U (.cells #[_] 4)).grown hgrow (by simp;omega) (fun k e=>(hs.lt k e).1);exact⟨⟨k+1,U,by go_num,hown',hb',U⟩,by simp[intOf];omega⟩
   ·have hv:(Value.bool false)=ji (rin lo hi k):=by rw[zm0 fun h=>h1 h.1]
    have HV:=qaa hv;clear hv
    go_wp2_with (at_builtin;refine wpList_append_own _ rfl _ _ 236 rfl (w.heap.size+1) 4 i0 (ji false) 1 1 Tryz.underlying236 hi0 hz0 hz1 hz2 rfl ja _ _ _ rfl (hs.alloc _) ⟨wr.heap.size,0,none⟩ 1 1 [ji false] rfl rfl (zat _ _ _) (by simp[Value.oneCell']) (by unfold maxLen;omega) U (by simp;omega) ?_;intro v' w1 hown' hgrow _)
    have hv:=HV.out;have hsz:=hgrow.size;rw[qbl] at hsz;rw[hv,<-zg7] at hown';have hb':=(hb.alloc U (.cells #[_] 4)).grown hgrow (by simp;omega) (fun k e=>(hs.lt k e).1);exact⟨⟨k+1,U,by go_num,hown',hb',U⟩,by simp[intOf];omega⟩
  ·obtain rfl:k=256:=U
   have h4:=(Four.new w (je jg 0) (je jg 0) (je jg 0) (je jg 0) 41).below hb (Nat.lt_succ_self _);have hr:RowAt wr u5 (bools (rin lo hi) 256):=RowAt.of_owns hs (zus _ _);have h:=qaa (zo2 (rin lo hi) _ wr hr);clear hr
   go_wp2_with fail
   refine h.out.mono ?_;rintro e w1 ⟨rfl,hb1⟩;obtain⟨⟨d0,d1,d2,d3⟩,hfr⟩:=h4.below hb1 U;clear h h4 hs;go_wp2;refine bodyPost_ret (v:=.agg #[je jg (setW (rin lo hi) 0),je jg (setW (rin lo hi) 1),je jg (setW (rin lo hi) 2),je jg (setW (rin lo hi) 3)]) (by simp[results,Tryz.results160,go_sem,d0,d1,d2,d3]) rfl ⟨rfl,?_⟩;exact(((((((qaf _ w).alloc (qac _) _).trans (hb.mono U)).trans (hb1.mono U)).setCell (qac _) _).setCell (qac _) _).setCell (qac _) _).setCell (qac _) _
end
def memb (f:Nat->Bool)(k:Nat):List Nat:=(List.range k).filter f
theorem yaay (f:Nat->Bool)(k:Nat):memb f (k+1)=memb f k++if f k then [k] else []:=by
 unfold memb;rw[List.range_succ,List.filter_append];cases h:f k<;>simp[h]
theorem yabo (f:Nat->Bool)(k:Nat):(memb f k).length<=k:=by
 unfold memb;have:=List.length_filter_le f (List.range k);simpa using this
theorem yafx {f g:Nat->Bool}(h:∀i,i<k->f i=g i):memb f k=memb g k:=by
 unfold memb;exact List.filter_congr (fun x hx=>h x (List.mem_range.1 hx))
theorem z9v {f:Nat->Bool}{j:Nat}:j ∈ memb f k↔j<k/\f j=true:=by
 unfold memb;rw[List.mem_filter,List.mem_range]
def wordN (n:PN)(k:Nat):Int:=if k=0 then n.s0 else if k=1 then n.s1 else if k=2 then n.s2 else n.s3
def bitF (n:PN)(i:Nat):Bool:=(wordN n (i/64)).toNat.testBit (i%64)
def z87 (n:PN):Prop:=(0<=n.s0/\n.s0<=18446744073709551615)/\(0<=n.s1/\n.s1<=18446744073709551615)/\(0<=n.s2/\n.s2<=18446744073709551615)/\(0<=n.s3/\n.s3<=18446744073709551615)
theorem yaby {n:PN}(h:z87 n):n.s0=setW (bitF n) 0/\n.s1=setW (bitF n) 1/\n.s2=setW (bitF n) 2/\n.s3=setW (bitF n) 3:=by
 obtain⟨⟨a,a'⟩,⟨b,b'⟩,⟨c,c'⟩,⟨d,d'⟩⟩:=h;refine⟨zib a a' fun j hj=>?_,zib b b' fun j hj=>?_,zib c c' fun j hj=>?_,zib d d' fun j hj=>?_⟩
 ·unfold bitF;rw[show(64*0+j)/64=0 by omega,show(64*0+j)%64=j by omega];rfl
 ·unfold bitF;rw[show(64*1+j)/64=1 by omega,show(64*1+j)%64=j by omega];rfl
 ·unfold bitF;rw[show(64*2+j)/64=2 by omega,show(64*2+j)%64=j by omega];rfl
 ·unfold bitF;rw[show(64*3+j)/64=3 by omega,show(64*3+j)%64=j by omega];rfl
def rstep (l:List (Nat × Nat))(c:Nat):List (Nat × Nat):=
 match l.getLast? with
 |none=>[(c,c)]
 |some (a,b)=>if b=(c+255)%256 then l.dropLast++[(a,c)] else l++[(c,c)]
def z85 (f:Nat->Bool):Nat->List (Nat × Nat)
 |0=>[]
 |k+1=>if f k then rstep (z85 f k) k else z85 f k
theorem z94 (c:Nat):rstep [] c=[(c,c)]:=rfl
theorem z9e (l:List (Nat × Nat))(a b c:Nat):rstep (l++[(a,b)]) c=if b=(c+255)%256 then l++[(a,c)] else l++[(a,b)]++[(c,c)]:=by
 unfold rstep;rw[List.getLast?_append];simp
theorem yadh (f:Nat->Bool)(k:Nat):(memb f k).foldl rstep []=z85 f k:=by
 induction k with
 |zero=>rfl
 |succ k ih=>
  rw[yaay,List.foldl_append,ih];show _=if f k then rstep (z85 f k) k else z85 f k
  cases h:f k<;>simp
theorem yaaq (l:List (Nat × Nat)):l=[]∨∃l' a b,l=l'++[(a,b)]:=by
 cases h:l.getLast? with
 |none=>exact .inl (List.getLast?_eq_none_iff.1 h)
 |some x=>obtain⟨a,b⟩:=x;obtain⟨ys,hy⟩:=List.getLast?_eq_some_iff.1 h;exact .inr ⟨ys,a,b,hy⟩
theorem yadi (f:Nat->Bool):∀(k:Nat) (l:List (Nat × Nat)) (a b:Nat),z85 f k=l++[(a,b)]->f b=true/\b<k:=by
 intro k
 induction k with
 |zero=>intro l a b h;simp[z85] at h
 |succ k ih=>
  intro l a b h;unfold z85 at h;cases hf:f k
  ·rw[hf] at h;simp at h
   have:=ih l a b h;exact⟨this.1,U⟩
  ·rw[hf,if_pos rfl] at h
   rcases yaaq (z85 f k) with h0|⟨l',a',b',h1⟩
   ·rw[h0,z94] at h
    have:=congrArg List.getLast? h;simp at this;rw[<-this.2];exact⟨hf,U⟩
   ·rw[h1,z9e] at h
    split at h
    ·have:=congrArg List.getLast? h
     simp at this;rw[<-this.2];exact⟨hf,U⟩
    ·have:=congrArg List.getLast? h
     simp at this;rw[<-this.2];exact⟨hf,U⟩
theorem yait (f:Nat->Bool)(c:Nat)(hc:c<256)(h0:c=0∨f (c-1)=false)(hf:f c=true):z85 f (c+1)=z85 f c++[(c,c)]:=by
 show(if f c then rstep (z85 f c) c else _)=_;rw[hf,if_pos rfl];rcases yaaq (z85 f c) with h|⟨l',a',b',h1⟩
 ·rw[h];rfl
 ·obtain⟨hb,hlt⟩:=yadi f c l' a' b' h1
  rw[h1,z9e,if_neg];intro e;have hcp:0<c:=U
  have:b'=c-1:=U
  rcases h0 with h|h
  ·omega
  ·rw[<-this,hb] at h;cases h
theorem yafy (f:Nat->Bool)(c:Nat)(h0:c=0∨f (c-1)=false):∀(m:Nat),c+m<256->(∀i,c<=i->i<=c+m->f i=true)->z85 f (c+m+1)=z85 f c++[(c,c+m)]:=by
 intro m
 induction m with
 |zero=>intro hc hf;exact yait f c hc h0 (hf c (qac _) U)
 |succ m ih=>
  intro hc hf;have h:=ih U (fun i h1 h2=>hf i h1 U);show(if f (c+(m+1)) then rstep (z85 f (c+m+1)) (c+(m+1)) else _)=_;rw[hf _ U (qac _),if_pos rfl,h,z9e,if_pos U]
theorem yae7 (f:Nat->Bool)(k d:Nat)(h0:k=0∨f (k-1)=false)(hkd:k<d)(hd:d<=256)(hf:∀i,k<=i->i<d->f i=true):z85 f d=z85 f k++[(k,d-1)]:=by
 obtain⟨m,rfl⟩:∃m,d=k+m+1:=⟨d-k-1,U⟩;exact yafy f k h0 m U fun i h1 h2=>hf i h1 U
theorem yadj (f:Nat->Bool)(d:Nat)(h:f d=false):z85 f (d+1)=z85 f d:=by
 show(if f d then _ else _)=_;rw[h];rfl
theorem yaab (f:Nat->Bool)(k:Nat):(z85 f k).length<=k:=by
 induction k with
 |zero=>simp[z85]
 |succ k ih=>
  unfold z85;cases hf:f k
  ·simp;omega
  ·simp only[if_true]
   rcases yaaq (z85 f k) with h|⟨l',a',b',h1⟩
   ·rw[h];simp[rstep]
   ·rw[h1] at ih ⊢
    rw[z9e];split<;>simp at ih ⊢<;>omega
theorem yabp (f:Nat->Bool)(k:Nat)(hk:k<=256):∀x,x ∈ z85 f k->x.1<256/\x.2<256:=by
 induction k with
 |zero=>intro x hx;simp[z85] at hx
 |succ k ih=>
  intro x hx;have ih:=ih U;unfold z85 at hx;cases hf:f k
  ·rw[hf] at hx;simp at hx;exact ih x hx
  ·rw[hf,if_pos rfl] at hx
   rcases yaaq (z85 f k) with h|⟨l',a',b',h1⟩
   ·rw[h,z94] at hx;simp at hx;subst hx;exact⟨U,U⟩
   ·rw[h1] at ih
    rw[h1,z9e] at hx;split at hx
    ·rw[List.mem_append] at hx
     rcases hx with hx|hx
     ·exact ih x (List.mem_append_left _ hx)
     ·simp at hx;subst hx;exact⟨(ih (a',b') jc).1,by show k<256;omega⟩
    ·rw[List.mem_append] at hx
     rcases hx with hx|hx
     ·exact ih x hx
     ·simp at hx;subst hx;exact⟨by show k<256;omega,by show k<256;omega⟩
def z9b (l:List (Nat × Nat)):List Value:=l.flatMap fun x=>[je jl (x.1:Int),je jl (x.2:Int)]
theorem z9f (l:List (Nat × Nat))(a b:Nat):z9b (l++[(a,b)])=z9b l++[je jl (a:Int),je jl (b:Int)]:=by
 unfold z9b;rw[List.flatMap_append];rfl
theorem z9p (l:List (Nat × Nat)):(z9b l).length=l.length*2:=by
 induction l with
 |nil=>rfl
 |cons x l ih=>unfold z9b at *;rw[List.flatMap_cons,qad,ih];simp;omega
theorem Tryz.infoU8:(qab.info? 5).map (fun i=>(i.zero,i.size,i.bytes))=some (some (je jl 0),1,1):=jb
theorem z89 {base':Nat}(h:W.ownsRow base e size v k xs)(hb:base'<=base):W.ownsRow base' e size v k xs:=by
 refine⟨h.1,?_⟩;rcases h.2 with hn|⟨g,cap,cur,hv,hbg,rest⟩
 ·exact .inl hn
 ·exact .inr ⟨g,cap,cur,hv,qal hb hbg,rest⟩
section
open Go.RowKit
theorem yaaz (f:Nat->Bool)(k:Nat)(b:Bool)(hb:f k=b)(w:World)(hk:k<256) :
  Calls qab 76 #[.agg #[je jg (setW f 0),je jg (setW f 1),je jg (setW f 2),je jg (setW f 3)],je jl (k:Int)] w fun e w'=>e=.returned (ji b)/\Below w.heap.size w w':=by
 subst hb;have h:=yais f (k:Int) w U U;rw[qa8] at h;exact h
theorem yafz (f:Nat->Bool)(w:World) :
  Calls qab 45 #[.agg #[je jg (setW f 0),je jg (setW f 1),je jg (setW f 2),je jg (setW f 3)]] w fun e W'=>
   ∃v,e=.returned v/\W'.ownsRow w.heap.size 5 1 v (memb f 256).length (u8s (memb f 256))/\Below w.heap.size w W':=by
 obtain⟨i0,hi0,hz0,hz1,hz2⟩:=info_parts Tryz.infoU8;go_enter Tryz.func45,Tryz.ntmps45;go_wp2;obtain⟨S,hSv⟩:∃S:Obj,S=.cells #[je jg (setW f 0),je jg (setW f 1),je jg (setW f 2),je jg (setW f 3)] 41:=⟨_,rfl⟩;have hS0:SetAt f w.heap.size (w.alloc S):=by rw[hSv];exact SetAt.new rfl rfl rfl rfl rfl
 simp only[<-hSv];clear hSv
 go_loopw [3,4] (fun v c wr=>∃k:Nat,k<=256/\c=je jd k/\wr.ownsRow (w.heap.size+1) 5 1 v (memb f k).length (u8s (memb f k))/\Below (w.heap.size+1) (w.alloc S) wr) (fun _ c _=>(256-(intOf c).toNat))
 case atStart=>
  exact⟨0,Nat.zero_le _,rfl,qav _ _ _ _,qaf _ _⟩
 case round=>
  obtain⟨k,hk,rfl,hs,hb⟩:=hrel;have hz:=hb.size;rw[qbl] at hz;by_cases hlt:k<256
  ·have hS:=hS0.below hb (Nat.lt_succ_self _)
   obtain⟨⟨c0,c1,c2,c3⟩,-⟩:=hS.four;have hml:=yabo f k;have hms:=yaay f k;cases hfk:f k
   ·rw[hfk] at hms
    have HM:=qaa hms;have HF:=qaa hfk;clear hms hfk
    go_wp2_with (go_at_call 76;refine(yaaz f k false HF.out _ hlt).mono ?_;rintro e w1 ⟨rfl,hb1⟩)
    have hb2:=hb.trans (hb1.mono U);have hs2:=zab hs hb1;exact⟨⟨k+1,U,by go_num,by rw[HM.out];simpa using hs2,hb2⟩,by simp[intOf];omega⟩
   ·rw[hfk] at hms
    have HM:=qaa hms;have HF:=qaa hfk;clear hms hfk
    go_wp2_with (first|(go_at_call 76;refine(yaaz f k true HF.out _ hlt).mono ?_;rintro e w1 ⟨rfl,hb1⟩;have hs1:=zab hs hb1;have hsz1:=hb1.size)|(at_builtin;refine wpList_append_own _ rfl _ _ 71 rfl (w.heap.size+1) 5 i0 (je jl 0) 1 1 Tryz.underlying71 hi0 hz0 hz1 hz2 rfl ja _ _ _ rfl (hs1.alloc _) ⟨w1.heap.size,0,none⟩ 1 1 [je jl (k:Int)] rfl rfl (zat _ _ _) (by simp[Value.oneCell']) (by unfold maxLen;omega) U (by simp;omega) ?_;intro v' w2 hown' hgrow _))
    have hb2:=((hb.trans (hb1.mono U)).alloc U (.cells #[_] 5)).grown hgrow (by simp;omega) (fun k e=>(hs1.lt k e).1);rw[<-zqx] at hown';exact⟨⟨k+1,U,by go_num,by rw[HM.out];simpa using hown',hb2⟩,by simp[intOf];omega⟩
  ·obtain rfl:k=256:=U
   clear hS0;go_wp2;go_ret;exact⟨_,rfl,z89 hs U,((qaf _ w).alloc (qac _) S).trans (hb.mono U)⟩
end
section
open Go.RowKit
theorem Tryz.infoRun:(qab.info? 87).map (fun i=>(i.zero,i.size,i.bytes))=some (some (.agg #[je jl 0,je jl 0]),2,2):=jb
theorem yagu (f:Nat->Bool)(w:World) :
  Calls qab 47 #[.agg #[je jg (setW f 0),je jg (setW f 1),je jg (setW f 2),je jg (setW f 3)]] w fun e W'=>
   ∃v,e=.returned v/\W'.ownsRow w.heap.size 87 2 v (z85 f 256).length (z9b (z85 f 256))/\Below w.heap.size w W':=by
 obtain⟨i0,hi0,hz0,hz1,hz2⟩:=info_parts Tryz.infoRun;go_enter Tryz.func47,Tryz.ntmps47;go_wp2;obtain⟨S,hSv⟩:∃S:Obj,S=.cells #[je jg (setW f 0),je jg (setW f 1),je jg (setW f 2),je jg (setW f 3)] 41:=⟨_,rfl⟩;have hS0:SetAt f w.heap.size (w.alloc S):=by rw[hSv];exact SetAt.new rfl rfl rfl rfl rfl
 simp only[<-hSv];clear hSv
 go_loopw [3,4] (fun v c wr=>∃k:Nat,k<=257/\c=je jd k/\(k=0∨f (k-1)=false∨k=257)/\wr.ownsRow (w.heap.size+1) 87 2 v (z85 f (min k 256)).length (z9b (z85 f (min k 256)))/\Below (w.heap.size+1) (w.alloc S) wr) (fun _ c _=>(257-(intOf c).toNat))
 case atStart=>
  exact⟨0,Nat.zero_le _,rfl,.inl rfl,qav _ _ _ _,qaf _ _⟩
 case round=>
  obtain⟨k,hk,rfl,hk0,hs,hb⟩:=hrel;have hz:=hb.size;rw[qbl] at hz;have hrl:=yaab f k;by_cases hlt:k<256
  ·rw[Nat.min_eq_left U] at hs
   have hk0':k=0∨f (k-1)=false:=hk0.elim .inl fun h=>h.elim .inr fun h=>absurd h U
   have HK:=qaa hk0';have hdk256:decide ((k:Int)<256)=true:=decide_eq_true U;clear hk0 hk0';go_wp2;obtain⟨wo,rfl⟩:∃wo:World,wo=wr:=⟨_,rfl⟩
   go_loopw [5] (fun c wr=>∃d:Nat,k<=d/\d<=256/\c=je jd d/\Hid (∀i,k<=i->i<d->f i=true)/\wr.ownsRow (w.heap.size+1) 87 2 u3 (z85 f k).length (z9b (z85 f k))/\Below (w.heap.size+1) (w.alloc S) wr) (fun c _=>(257-(intOf c).toNat))
   case atStart=>exact⟨k,qac _,U,rfl,qaa (fun i _ _=>U),hs,hb⟩
   case round=>
    obtain⟨d,hd1,hd2,rfl,HD,hs,hb⟩:=hrel;have hz:=hb.size;rw[qbl] at hz;obtain⟨⟨c0,c1,c2,c3⟩,-⟩:=(hS0.below hb (Nat.lt_succ_self _)).four;by_cases hlt2:d<256
    ·cases hfd:f d
     ·have HF:=qaa hfd
      clear hfd;by_cases hdk:k<d
      ·go_wp2_with (first|(go_at_call 76;refine(yaaz f d false HF.out _ hlt2).mono ?_;rintro e w1 ⟨rfl,hb1⟩;have hs1:=zab hs hb1;have hsz1:=hb1.size)|(at_builtin;go_loud (refine wpList_append_own _ rfl _ _ 85 rfl (w.heap.size+1) 87 i0 (.agg #[je jl 0,je jl 0]) 2 2 Tryz.underlying85 hi0 hz0 hz1 hz2 rfl ja _ _ _ rfl (hs1.alloc _) ⟨w1.heap.size,0,none⟩ 1 1 [je jl (k:Int),je jl ((d:Int)-1)] rfl rfl (cell_two_new _ _ _ _) (by simp[Value.oneCell']) (by unfold maxLen;omega) U (by simp;omega) ?_);intro v' w2 hown' hgrow _))
       have hb2:=((hb.trans (hb1.mono U)).alloc U (.cells #[_,_] 87)).grown hgrow (by simp;omega) (fun k e=>(hs1.lt k e).1);have hre:=yae7 f k d HK.out hdk hd2 HD.out;have hl:(z85 f d).length=(z85 f k).length+1:=by rw[hre];simp
       rw[show((d:Int)-1)=((d-1:Nat):Int) from by omega,<-z9f,<-hre,<-hl] at hown';exact⟨⟨d+1,U,by go_num,.inr (.inl HF.out),by rw[Nat.min_eq_left U,yadj f d HF.out];exact hown',hb2⟩,by simp[intOf];omega⟩
      ·obtain rfl:k=d:=U
       go_wp2_with (go_at_call 76;refine(yaaz f k false HF.out _ hlt2).mono ?_;rintro e w1 ⟨rfl,hb1⟩)
       have hs1:=zab hs hb1;exact⟨⟨k+1,U,by go_num,.inr (.inl HF.out),by rw[Nat.min_eq_left U,yadj f k HF.out];exact hs1,hb.trans (hb1.mono U)⟩,by simp[intOf];omega⟩
     ·have HF:=qaa hfd
      clear hfd
      go_wp2_with (go_at_call 76;refine(yaaz f d true HF.out _ hlt2).mono ?_;rintro e w1 ⟨rfl,hb1⟩)
      have hs1:=zab hs hb1;go_roundw
      case rel=>exact⟨d+1,U,U,by go_num,qaa (fun i h1 h2=>if h:i=d then by rw[h];exact HF.out else HD.out i h1 U),hs1,hb.trans (hb1.mono U)⟩
      case measure=>simp[intOf];omega
    ·obtain rfl:d=256:=U
     go_wp2_with (at_builtin;refine wpList_append_own _ rfl _ _ 85 rfl (w.heap.size+1) 87 i0 (.agg #[je jl 0,je jl 0]) 2 2 Tryz.underlying85 hi0 hz0 hz1 hz2 rfl ja _ _ _ rfl (hs.alloc _) ⟨wr.heap.size,0,none⟩ 1 1 [je jl (k:Int),je jl 255] rfl rfl (cell_two_new _ _ _ _) (by simp[Value.oneCell']) (by unfold maxLen;omega) U (by simp;omega) ?_;intro v' w2 hown' hgrow _)
     have hb2:=(hb.alloc U (.cells #[_,_] 87)).grown hgrow (by simp;omega) (fun k e=>(hs.lt k e).1);have hre:=yae7 f k 256 HK.out hlt (qac _) HD.out;have hl:(z85 f 256).length=(z85 f k).length+1:=by rw[hre];simp
     rw[show(255:Int)=((256-1:Nat):Int) from rfl,<-z9f,<-hre,<-hl] at hown';exact⟨⟨257,U,rfl,.inr (.inr rfl),hown',hb2⟩,by simp[intOf];omega⟩
  ·have e:min k 256=256:=U
   rw[e] at hs;clear hS0 hk0;go_wp2;go_ret;exact⟨_,rfl,z89 hs U,((qaf _ w).alloc (qac _) S).trans (hb.mono U)⟩
end
section
open Go.RowKit
def PairsAt (w:World)(v:Value)(rs:List (Nat × Nat)):Prop:=∃a cap,v=jf a rs.length cap/\(rs=[]∨∃b,a=some ⟨b,0,none⟩/\∀i x,rs[i]?=some x->w.cell? ⟨b,i*2,none⟩=some (je jl (x.1:Int))/\w.cell? ⟨b,i*2+1,none⟩=some (je jl (x.2:Int)))
theorem yabe:∀(rs:List (Nat × Nat)) (i:Nat) (x:Nat × Nat),rs[i]?=some x->(z9b rs)[i*2]?=some (je jl (x.1:Int))/\(z9b rs)[i*2+1]?=some (je jl (x.2:Int))
 | [],_,_,h=>by cases h
 |y::r,0,x,h=>by cases h;exact⟨rfl,rfl⟩
 |y::r,i+1,x,h=>by
  have:=yabe r i x h;rw[show(i+1)*2=i*2+1+1 from by omega];exact this
theorem PairsAt.of_owns {rs:List (Nat × Nat)}(h:w.ownsRow base t 2 v rs.length (z9b rs)):PairsAt w v rs:=by
 have h':=h;obtain⟨-,⟨rfl,h0⟩|⟨g,cap,cur,rfl,-⟩⟩:=h'
 ·exact⟨none,0,by rw[h0],.inl (List.length_eq_zero_iff.1 h0)⟩
 ·refine⟨_,cap,rfl,.inr ⟨g,rfl,fun i x hx=>?_⟩⟩
  obtain⟨h1,h2⟩:=yabe rs i x hx;have e1:=h.cells rfl _ _ h1;have e2:=h.cells rfl _ _ h2;rw[Addr.add_lit,Nat.zero_add] at e1 e2;exact⟨e1,e2⟩
theorem yagv (f:Nat->Bool)(w:World):Calls qab 47 #[.agg #[je jg (setW f 0),je jg (setW f 1),je jg (setW f 2),je jg (setW f 3)]] w fun e w'=>∃a cap,e=.returned (jf a (z85 f 256).length cap)/\PairsAt w' (jf a (z85 f 256).length cap) (z85 f 256)/\Below w.heap.size w w':=by
 refine(yagu f w).mono ?_;rintro e w' ⟨v,rfl,hr,hb⟩;have h:=PairsAt.of_owns hr;have h':=h;obtain⟨a,cap,rfl,-⟩:=h';exact⟨a,cap,rfl,h,hb⟩
end
theorem yae8 (a b:Int)(w:World):(Op.equalIn 9999 39 (je jg a) (je jg b)).run qab w=.ok (a == b) w:=jb
theorem pt0 (x y z u:Value)(w:World):(Go.part 39 #[x,y,z,u] 0).run qab w=.ok x w:=jb
theorem pt1 (x y z u:Value)(w:World):(Go.part 39 #[x,y,z,u] 1).run qab w=.ok y w:=jb
theorem pt2 (x y z u:Value)(w:World):(Go.part 39 #[x,y,z,u] 2).run qab w=.ok z w:=jb
theorem pt3 (x y z u:Value)(w:World):(Go.part 39 #[x,y,z,u] 3).run qab w=.ok u w:=jb
theorem yadk:qab.cellsOf 39=1:=jb
theorem yagw:qab.underlying 41=some (.array 4 39):=jb
theorem yaiu:∃i,qab.info? 39=some i:=Option.isSome_iff_exists.1 jb
theorem yall (a b c d x y z u:Int)(w:World) :
  (Op.equalIn 10000 41 (.agg #[je jg a,je jg b,je jg c,je jg d]) (.agg #[je jg x,je jg y,je jg z,je jg u])).run qab w=.ok (a == x&&(b == y&&(c == z&&d == u))) w:=by
 obtain⟨i,hi⟩:=yaiu;rw[run_equalIn_array w 9999 _ _ yagw hi,show List.range 4=[0,1,2,3] from rfl];have e1:=yae8 a x;have e2:=yae8 b y;have e3:=yae8 c z;have e4:=yae8 d u;generalize (a == x)=r1 at *;generalize (b == y)=r2 at *;generalize (c == z)=r3 at *;generalize (d == u)=r4 at *;cases r1<;>cases r2<;>cases r3<;>cases r4<;>simp[Op.eqItems,yadk,pt0,pt1,pt2,pt3,e1,e2,e3,e4]
theorem yaef (a b c d x y z u:Int)(w:World) :
  (binOp .eql 41 (.agg #[je jg a,je jg b,je jg c,je jg d]) (.agg #[je jg x,je jg y,je jg z,je jg u])).run qab w=.ok (ji (a == x&&(b == y&&(c == z&&d == u)))) w:=by
 have h:(Op.equal 41 (.agg #[je jg a,je jg b,je jg c,je jg d]) (.agg #[je jg x,je jg y,je jg z,je jg u])).run qab w=_:=yall a b c d x y z u w;simp[binOp,h]
theorem yae9 {o:Oper}{a:Act}(op:BinOp)(t u:TypeId)(x y:Operand)(ho:o.op=.binOp op t x y u)(xs ys:Array Value)(hx:a.eval x=.agg xs)(hy:a.eval y=.agg ys)
  (hm:qab.eqGuardType qab.depth t=false) (v:Value) (hv:(binOp op t (.agg xs) (.agg ys)).run qab w=.ok v w):(execOp a.eval o).run qab w=.ok (.value v) w:=by
 have hg:=run_eqGuard_agg w op t x y xs ys hm;unfold execOp;rw[ho];show((eqGuard op t x y (a.eval x) (a.eval y) >>= fun _=>binOp op t (a.eval x) (a.eval y)) >>= fun s=>pure (Next.value s)).run qab w=_;rw[hx,hy,Sem.run_bind,Sem.run_bind,hg,Result.andThen_ok,hv,Result.andThen_ok];rfl
theorem yagx:qab.eqGuardType qab.depth 41=false:=jb
theorem yabf {F:Fence}{ops:Array Oper}{rest:List Oper}{o:Oper}{a:Act}{Q:Exit->Act->World->Prop}(hF:F.round=none)(op:BinOp)(t u:TypeId)(x y:Operand)(ho:o.op=.binOp op t x y u)
  (hw:Region.wanted o (yielded ops a.tmps)=true) (xs ys:Array Value) (hx:a.eval x=.agg xs) (hy:a.eval y=.agg ys) (ha:o.about qab w a.eval=none)
  (hm:qab.eqGuardType qab.depth t=false) (v:Value) (hv:(binOp op t (.agg xs) (.agg ys)).run qab w=.ok v w) (h:wpListIn F n qab ops Q rest (a.put o.dst v) w):wpListIn F n qab ops Q (o::rest) a w:=
 wpListIn_step fun K hK=>by
  rw[if_pos hw];refine⟨(fun f hf=>by rw[ha] at hf;cases hf),?_⟩;show o.uponIn F n qab a K Q ((o.semAt F.round a.eval).run qab w);rw[hF,show o.semAt none a.eval=execOp a.eval o from rfl,yae9 op t u x y ho xs ys hx hy hm v hv];exact hK _ _ h
open Go.RowKit Go.Shelf
attribute [local go_sem] Oper.semAt_some
abbrev By:={ x:Nat // x<256 }
def encB (x:By):Array Value:=#[je jl (x.1:Int)]
def KeepB (Bs:Nat)(A B:World):Prop:=A.heap.size<=B.heap.size/\B.heap[Bs]?=A.heap[Bs]?
theorem KeepB.trans {B C:World}(h:KeepB Bs A B)(h':KeepB Bs B C):KeepB Bs A C:=⟨qal h.1 h'.1,h'.2.trans h.2⟩
theorem SetAt.keepB {f:Nat->Bool}{B:World}(h:SetAt f Bs A)(hk:KeepB Bs A B):SetAt f Bs B:=fun j hj=>
 ⟨(World.cell?_of_block (a:=⟨Bs,j,none⟩) hk.2).trans (h j hj).1,(World.frozen?_of_block (a:=⟨Bs,j,none⟩) hk.2).trans (h j hj).2⟩
theorem SetAt.lt {f:Nat->Bool}(h:SetAt f Bs A):Bs<A.heap.size:=block_lt_of_cell (h 0 U).1
theorem yadl (hBs:Bs<w.heap.size)(W:World)(l:Nat)(o o':Obj)(hl:w.heap.size<=l)(_:W.heap[l]?=some o)(_:o.isCells=false)(_:o.isWalk=false):KeepB Bs W (W.putObj l o'):=
 ⟨jc,World.putObj_heap_other U⟩
theorem yajt (f:Nat->Bool)(k:Nat)(b:Bool)(hb:f k=b)(n:Nat)(w:World)(hk:k<256) :
  CallsIn Fence.wide n qab 96 #[.agg #[je jg (setW f 0),je jg (setW f 1),je jg (setW f 2),je jg (setW f 3)],je jl (k:Int)] w fun e w'=>e=.returned (ji b)/\Below w.heap.size w w':=by
 subst hb;have h:=yake f (k:Int) w U U;rw[qa8] at h;exact callsIn_wide.2 h
theorem yaf0 {f:Nat->Bool}(h:setW f k=0)(j:Nat)(hj:j<64):f (64*k+j)=false:=by
 rw[<-zfi f k j hj,h];simp
theorem yagy {f:Nat->Bool}(h:(setW f 0 == 0&&(setW f 1 == 0&&(setW f 2 == 0&&setW f 3 == 0)))=true):memb f 256=[]:=by
 simp only[Bool.and_eq_true,beq_iff_eq] at h;obtain⟨h0,h1,h2,h3⟩:=h;unfold memb;rw[List.filter_eq_nil_iff];intro i hi;have hi:=List.mem_range.1 hi;have e:i=64*(i/64)+i%64:=U
 have hk:i/64=0∨i/64=1∨i/64=2∨i/64=3:=U
 have hz:setW f (i/64)=0:=by rcases hk with h|h|h|h<;>rw[h]<;>assumption
 rw[e,yaf0 hz _ U];simp
theorem yaeg (n:Nat)(l Bs:Nat)(f:Nat->Bool)(W:World)(hS:SetAt f Bs W)(hr:(setW f 0 == 0&&(setW f 1 == 0&&(setW f 2 == 0&&setW f 3 == 0)))=true) :
  CallsIn Fence.wide n qab 95 #[.func (.yield l) #[] #[],jj (some ⟨Bs,0,none⟩)] W fun e W'=>(∃v,e=.returned v)/\W'=W:=by
 obtain⟨⟨c0,c1,c2,c3⟩,-⟩:=hS.four;have he:=fun w=>yaef (setW f 0) (setW f 1) (setW f 2) (setW f 3) 0 0 0 0 w
 rw[hr] at he;clear hr hS;refine callsIn_of_wp Tryz.func95 rfl trivial ?_ rfl;simp only[Tryz.ntmps95,qct,qah,qbq,Nat.reduceAdd,Nat.reduceSub,qeb,qec,qev,qel,qbi,qbt]
 gi_wp2_with (with_reducible refine yabf rfl BinOp.eql 41 _ _ _ rfl rfl _ _ rfl rfl rfl yagx _ (he _) ?_)
 refine bodyPost_ret (results_none rfl _ _ _) rfl ?_;exact⟨⟨_,rfl⟩,rfl⟩
theorem yaeh (n:Nat)(hn:1<=n)(l Bs:Nat)(f:Nat->Bool)(J Jx:List By->World->Prop)
  (hY:∀pre x W,J pre W->pre.length<256->YieldAt Fence.wide (n-1) qab l (encB x) W fun e W'=>
   (e=.returned (ji true)/\J (pre++[x]) W'/\KeepB Bs W W')∨(e=.returned (ji false)/\Jx (pre++[x]) W'))
  (W:World) (hJ:AbidesFrom W.heap.size J) (hS:SetAt f Bs W) (h0:J [] W) :
  CallsIn Fence.wide n qab 95 #[.func (.yield l) #[] #[],jj (some ⟨Bs,0,none⟩)] W fun e W'=>(∃v,e=.returned v) /\
   ((∃ys:List By,ys.map (·.1)=memb f 256/\J ys W')∨(∃pre:List By,True/\Jx pre W')):=by
 by_cases hr:(setW f 0 == 0&&(setW f 1 == 0&&(setW f 2 == 0&&setW f 3 == 0)))=true
 ·refine(yaeg n l Bs f W hS hr).mono ?_
  rintro e W' ⟨hv,rfl⟩;exact⟨hv,.inl ⟨[],(yagy hr).symm,h0⟩⟩
 rw[Bool.not_eq_true] at hr;obtain⟨⟨c0,c1,c2,c3⟩,-⟩:=hS.four;have he:=fun w=>yaef (setW f 0) (setW f 1) (setW f 2) (setW f 3) 0 0 0 0 w
 rw[hr] at he;clear hr;have HJ:=qaa hJ;have HY:=qaa hY;clear hJ hY;refine callsIn_of_wp Tryz.func95 rfl trivial ?_ rfl;simp only[Tryz.ntmps95,qct,qah,qbq,Nat.reduceAdd,Nat.reduceSub,qeb,qec,qev,qel,qbi,qbt]
 gi_wp2_with (with_reducible refine yabf rfl BinOp.eql 41 _ _ _ rfl rfl _ _ rfl rfl rfl yagx _ (he _) ?_)
 clear he c0 c1 c2 c3
 gi_loopw [7] (fun c wr=>∃(k:Nat) (pre:List By),k<=256/\c=je jd k/\pre.map (·.1)=memb f k/\J pre wr/\SetAt f Bs wr/\W.heap.size<=wr.heap.size)
  (fun c _=>256-(intOf c).toNat)
 case atStart=>
  exact⟨0,[],U,rfl,rfl,h0,hS,qac _⟩
 case round=>
  obtain⟨k,pre,hk,rfl,hpre,hJs,hS,hz⟩:=hrel;by_cases hlt:k<256
  ·obtain⟨⟨c0,c1,c2,c3⟩,-⟩:=hS.four
   have hlen:pre.length<256:=by
    have:=congrArg List.length hpre;rw[qaw] at this;have:=yabo f k;omega
   have hms:=yaay f k;cases hfk:f k
   ·rw[hfk] at hms
    have HM:=qaa hms;have HP:=qaa hpre;have HF:=qaa hfk;clear hms hpre hfk
    gi_wp2_with (refine⟨trivial,?_⟩;gi_at_call 96;refine(yajt f k false HF.out _ _ hlt).mono ?_;rintro e w1 ⟨rfl,hb1⟩)
    refine⟨(fun _ h=>by cases h),?_⟩
    gi_wp2
    go_roundw
    case rel=>
     exact⟨k+1,pre,U,by go_num,by rw[HM.out,HP.out];simp,HJ.out pre wr w1 none hJs (zhy hb1) (by intro r e;cases e),hS.below hb1 hS.lt,qal hz hb1.size⟩
    case measure=>simp[intOf];omega
   ·rw[hfk] at hms
    have HM:=qaa hms;have HP:=qaa hpre;have HF:=qaa hfk;clear hms hpre hfk
    gi_wp2_with (refine⟨trivial,?_⟩;gi_at_call 96;refine(yajt f k true HF.out _ _ hlt).mono ?_;rintro e w1 ⟨rfl,hb1⟩;have hJ1:=HJ.out pre wr w1 none hJs (zhy hb1) (by intro r e;cases e);obtain⟨fn,tmps,assign,body,hy,hR⟩:=HY.out pre ⟨k,hlt⟩ w1 hJ1 hlen;dsimp only[encB] at hy)
    refine hR.mono ?_;have hz1:=hb1.size;clear hR hy;rintro e W3 (⟨rfl,hJ3,hk3⟩|⟨rfl,hJx3⟩)
    ·gi_wp2
     go_roundw
     case rel=>
      exact⟨k+1,pre++[⟨k,hlt⟩],U,by go_num,by rw[HM.out,qa5,HP.out];simp,hJ3,(hS.below hb1 hS.lt).keepB hk3,qal (qal hz hz1) hk3.1⟩
     case measure=>simp[intOf];omega
    ·gi_wp2
     refine bodyPost_ret (results_none rfl _ _ _) rfl ?_;exact⟨⟨_,rfl⟩,.inr ⟨_,trivial,hJx3⟩⟩
  ·obtain rfl:k=256:=U
   have HP:=qaa hpre;clear hpre
   gi_wp2
   go_end0
   exact⟨⟨_,rfl⟩,.inl ⟨pre,HP.out,hJs⟩⟩
theorem yaa0 (n:Nat)(hn:1<=n)(Bs:Nat)(f:Nat->Bool)(w:World)(hS:SetAt f Bs w) :
  SeqStopsK Fence.wide n qab 95 #[jj (some ⟨Bs,0,none⟩)] (fun x:By=>#[Value.int .u8 (x.1:Int)]) (KeepB Bs) (fun ys:List By=>ys.map (·.1)=memb f 256) (fun _=>True) 256 w:=fun l J Jx W hW hJ _ hY h0=>
 yaeh n hn l Bs f J Jx hY W hJ (hS.below hW hS.lt) h0
theorem yacq (n:Nat)(f:Nat->Bool)(w:World) :
  CallsIn Fence.wide n qab 69 #[.agg #[je jg (setW f 0),je jg (setW f 1),je jg (setW f 2),je jg (setW f 3)]] w fun e w'=>
   e=.returned (.func (.func 95) #[] #[jj (some ⟨w.heap.size,0,none⟩)])/\w'=w.alloc (.cells #[je jg (setW f 0),je jg (setW f 1),je jg (setW f 2),je jg (setW f 3)] 41):=by
 refine callsIn_of_wp Tryz.func69 rfl trivial ?_ rfl;simp only[Tryz.ntmps69,qct,qah,qbq,Nat.reduceAdd,Nat.reduceSub,qeb,qec,qev,qel,qbi,qbt]
 gi_wp2
 go_ret;exact⟨rfl,rfl⟩
end Go.Proofs.YtmopdlbpkiaoeaaGreatDoor
namespace Go.Proofs.YtmopdlbpkiaoeaaGreatDoor
open _root_.Array renaming replicate_succ->qeb, replicate_zero->qec
open Bool renaming eq_iff_iff->qcd
open Go renaming u64_and_nat->qew
open Go.Lib renaming hid->qaa
open Go.Proofs.Tryz renaming prog->qab
open Go.RowKit.Below renaming refl->qaf
open Go.World renaming ownsRow_nil->qav, size_alloc->qbl
open Int renaming eq_ofNat_of_zero_le->qco, toNat_natCast->qa8
open List renaming append_toArray->qel, cons_append->qbt, getElem?_map->qax, length_append->qad, length_cons->qah, length_map->qaw, length_nil->qbq, map_append->qa5, nil_append->qbi, push_toArray->qev, size_toArray->qct
open Nat renaming le_refl->qac, le_trans->qal, testBit_two_pow_mul_add->qc6
variable {a b c:Int}{xs:List Value}{B Bs base k n size:Nat}{e t:TypeId}{v:Value}{A W w w' w1:World}
section
open Go.RowKit Go.Shelf
attribute [local go_sem] Oper.semAt_some
theorem z95 {o:Obj}{v':Value}(hrow:W.ownsRow base e size v n xs)(hgrow:(W.alloc o).grownBy w1 v.ownBlock)
  (hBs:Bs<base) (hl:Bs<W.heap.size) (hne:B≠Bs):KeepB Bs W (w1.setCell ⟨B,0,none⟩ v'):=by
 have h1:=hgrow.size;rw[qbl] at h1;refine⟨by simp;omega,?_⟩;rw[Below.heap_setCell _ _ _ Bs (by simpa using fun h=>hne h.symm),hgrow.block Bs (by simp;omega) (fun e=>by have:=(hrow.lt Bs e.symm).1;omega),Below.heap_alloc _ _ Bs hl]
theorem yaiv (n:Nat)(hn:3<=n)(f:Nat->Bool)(w:World) :
  CallsIn Fence.wide n qab 38 #[.agg #[je jg (setW f 0),je jg (setW f 1),je jg (setW f 2),je jg (setW f 3)]] w fun e W'=>
   ∃v,e=.returned v/\W'.ownsRow w.heap.size 5 1 v (memb f 256).length ((memb f 256).map fun k:Nat=>Value.int .u8 (k:Int))/\Below w.heap.size w W':=by
 have h1:1<=n:=U
 obtain⟨i0,hi,hz0,hz1,hz2⟩:=info_parts Tryz.infoU8;refine callsIn_of_wp_marks Tryz.func38 rfl trivial ?_ rfl;simp only[Tryz.ntmps38,qct,qah,qbq,Nat.reduceAdd,Nat.reduceSub,qeb,qec,qev,qel,qbi,qbt]
 gi_wp2_with (refine⟨trivial,?_⟩;gi_at_call 69;refine(yacq (n-1) f _).mono ?_;rintro e w' ⟨rfl,rfl⟩)
 obtain⟨S,hSv⟩:∃S:Obj,S=.cells #[je jg (setW f 0),je jg (setW f 1),je jg (setW f 2),je jg (setW f 3)] 41:=⟨_,rfl⟩;have bO:=Boxed.new (w.alloc S) 71 (jf none 0 0);rw[qbl] at bO;have hB0:Below (w.heap.size+1) (w.alloc S) (((w.alloc S).alloc (.cells #[jf none 0 0] 71)).alloc S):=((qaf _ _).alloc jc _).alloc jc _;have hS0:SetAt f (w.heap.size+1+1) (((w.alloc S).alloc (.cells #[jf none 0 0] 71)).alloc S):=by rw[hSv];exact SetAt.new jc rfl rfl rfl rfl
 simp only[<-hSv];refine wpIn_rangeFunc_ownG rfl h1 (gf:=95) (lb:=#[jj (some ⟨w.heap.size+1+1,0,none⟩)]) rfl trivial (enters_of Tryz.func95 jb rfl)
  (yaa0 (n-1) U (w.heap.size+1+1) f _ hS0) KeepB.trans (yadl jc) (qaf _ _) (fun _=>rfl)
  (fun pre W=>(∃v,Boxed W (w.heap.size+1) 71 v/\W.ownsRow (w.heap.size+3) 5 1 v pre.length (pre.map fun x:By=>Value.int .u8 (x.1:Int))/\True)/\Below (w.heap.size+1) (w.alloc S) W/\w.heap.size+3<=W.heap.size)
  (fun _ _ _=>False)
  (OwnFrom.and (Own.from (holdsRow_own (w.heap.size+3) (w.heap.size+1) 71 5 1 (fun pre:List By=>pre.length) (fun pre=>pre.map fun x:By=>Value.int .u8 (x.1:Int)) (fun _ _=>True)) _) (OwnFrom.and (ownFrom_below jc jc) (Own.from (fun _ _ _ _ hs hg _=>qal hs hg.size) _)))
  (fun _ _ _ _ _ hs _ _=>hs)
  ⟨⟨_,bO.alloc _,qav _ _ _ _,trivial⟩,hB0,jc⟩
  (fun x=>{ tmps:=#[.agg #[je jg (setW f 0),je jg (setW f 1),je jg (setW f 2),je jg (setW f 3)],jj (some ⟨w.heap.size,0,none⟩),jf none 0 0,jj (some ⟨w.heap.size+1,0,none⟩),je jl (x.1:Int),.agg #[je jg (setW f 0),je jg (setW f 1),je jg (setW f 2),je jg (setW f 3)],.func (.func 95) #[] #[jj (some ⟨w.heap.size+1+1,0,none⟩)],je jl (x.1:Int),undef,undef,undef,undef,undef],defers:=[] }) ?assign ?body ?done ?stop
 case assign=>
  intro l x W K hK
  gi_wp2
  exact hK
 case body=>
  rintro l pre x W ⟨⟨v,hv,hrow,-⟩,hB,hsz⟩ hlt;have hc:=hv.cell
  gi_wp2_with (gi_at_builtin;go_loud (refine wpListIn_append_own _ rfl _ _ 71 rfl (w.heap.size+3) 5 i0 (je jl 0) 1 1 Tryz.underlying71 hi hz0 hz1 hz2 rfl ja _ _ _ rfl (hrow.alloc _) ⟨W.heap.size,0,none⟩ 1 1 [je jl (x.1:Int)] rfl rfl (zat _ _ _) (by simp[Value.oneCell']) (by unfold maxLen;omega) U (by simp;omega) ?_);intro v' w1 hown' hgrow _;obtain⟨g',cap',rfl⟩:=ownsRow_succ hown';obtain⟨hv1,hv2,hr2,hk2,hb2⟩:=hv.appended ja (z89 hrow U) U (qac _) (z89 hown' U) hgrow;have hc1:=hv1.cell;have hf1:=hv1.frozen)
  change (World.alloc W _).grownBy w1 v.ownBlock at hgrow;have hkb:=z95 (B:=w.heap.size+1) (Bs:=w.heap.size+1+1) (v':=jf (some ⟨g',0,none⟩) (pre.length+1) cap') hrow hgrow U U U;have hrow':=hown'.kept (grownBy_setCell' w1 (w.heap.size+1) (jf (some ⟨g',0,none⟩) (pre.length+1) cap')) (.inr (hv1.not_row ja hown').symm);exact⟨hk2.from _,hkb,⟨_,hv2,by simpa using hrow',trivial⟩,hB.trans hb2,qal hsz hkb.1⟩
 case done=>
  rintro D ys W hD hys ⟨⟨v,hv,hrow,-⟩,hB,hsz⟩ hK;have hc:=hv.cell
  gi_wp2
  refine⟨jc,.inl ⟨_,_,rfl,run_takeDeferred hK,?_⟩⟩;have el:ys.map (fun x:By=>Value.int .u8 (x.1:Int))=(memb f 256).map fun k:Nat=>Value.int .u8 (k:Int):=by rw[<-hys,List.map_map];rfl
  have en:ys.length=(memb f 256).length:=by rw[<-hys,qaw]
  rw[el,en] at hrow;exact⟨_,results_tmp rfl _ _ _,v,rfl,z89 (ownsRow_putObj hrow _ hK rfl) U,((qaf _ w).alloc (qac _) S).trans ((hB.trans (belowK_b (w:=w.alloc S) jc W D _ _ (by simp at hD;simp;omega) hK rfl rfl)).mono U)⟩
 case stop=>
  rintro D c pre W _ _ h _;exact h.elim
theorem yagz (f:Nat->Bool)(w:World) :
  Calls qab 38 #[.agg #[je jg (setW f 0),je jg (setW f 1),je jg (setW f 2),je jg (setW f 3)]] w fun e W'=>
   ∃v,e=.returned v/\W'.ownsRow w.heap.size 5 1 v (memb f 256).length ((memb f 256).map fun k:Nat=>Value.int .u8 (k:Int))/\Below w.heap.size w W':=
 callsIn_wide.1 (yaiv 3 U f w)
end
section
open Go.RowKit Go.Shelf
attribute [local go_sem] Oper.semAt_some
def accR (pre:List By):List (Nat × Nat):=(pre.map (·.1)).foldl rstep []
theorem yag0 (pre:List By)(x:By):accR (pre++[x])=rstep (accR pre) x.1:=by
 unfold accR;rw[qa5,List.foldl_append];rfl
theorem yag1 (l:List (Nat × Nat))(c:Nat):(rstep l c).length<=l.length+1:=by
 rcases yaaq l with h|⟨l',a',b',h1⟩
 ·rw[h];simp[rstep]
 ·rw[h1,z9e];split<;>simp
theorem yaiw (pre:List By):(accR pre).length<=pre.length:=by
 have:∀(l:List Nat) (a:List (Nat × Nat)),(l.foldl rstep a).length<=a.length+l.length:=by
  intro l
  induction l with
  |nil=>intro a;simp
  |cons x l ih=>intro a;have:=ih (rstep a x);have:=yag1 a x;simp only[List.foldl_cons,qah];omega
 have:=this (pre.map (·.1)) [];unfold accR;simpa using this
def yabz (f:Nat->Bool)(n:Nat)(x:Int):Act:={ tmps:=#[.agg #[je jg (setW f 0),je jg (setW f 1),je jg (setW f 2),je jg (setW f 3)],jj (some ⟨n,0,none⟩),jf none 0 0,jj (some ⟨n+1,0,none⟩),je jl x,undef,.agg #[je jg (setW f 0),je jg (setW f 1),je jg (setW f 2),je jg (setW f 3)],.func (.func 95) #[] #[jj (some ⟨n+1+1,0,none⟩)],je jl x,undef,undef,undef,undef,undef,undef,undef,undef,undef,undef,undef,undef,undef,undef,undef,undef,undef,undef,undef,undef,undef,undef,undef,undef,undef,undef,undef],defers:=[] }
theorem yakg (n:Nat)(hn:3<=n)(f:Nat->Bool)(w:World) :
  CallsIn Fence.wide n qab 39 #[.agg #[je jg (setW f 0),je jg (setW f 1),je jg (setW f 2),je jg (setW f 3)]] w fun e W'=>
   ∃v,e=.returned v/\W'.ownsRow w.heap.size 87 2 v (z85 f 256).length (z9b (z85 f 256))/\Below w.heap.size w W':=by
 have h1:1<=n:=U
 obtain⟨i0,hi,hz0,hz1,hz2⟩:=info_parts Tryz.infoRun;refine callsIn_of_wp_marks Tryz.func39 rfl trivial ?_ rfl;simp only[Tryz.ntmps39,qct,qah,qbq,Nat.reduceAdd,Nat.reduceSub,qeb,qec,qev,qel,qbi,qbt]
 gi_wp2_with (refine⟨trivial,?_⟩;gi_at_call 69;refine(yacq (n-1) f _).mono ?_;rintro e w' ⟨rfl,rfl⟩)
 obtain⟨S,hSv⟩:∃S:Obj,S=.cells #[je jg (setW f 0),je jg (setW f 1),je jg (setW f 2),je jg (setW f 3)] 41:=⟨_,rfl⟩;have bO:=Boxed.new (w.alloc S) 85 (jf none 0 0);rw[qbl] at bO;have hB0:Below (w.heap.size+1) (w.alloc S) (((w.alloc S).alloc (.cells #[jf none 0 0] 85)).alloc S):=((qaf _ _).alloc jc _).alloc jc _;have hS0:SetAt f (w.heap.size+1+1) (((w.alloc S).alloc (.cells #[jf none 0 0] 85)).alloc S):=by rw[hSv];exact SetAt.new jc rfl rfl rfl rfl
 simp only[<-hSv];refine wpIn_rangeFunc_ownG rfl h1 (gf:=95) (lb:=#[jj (some ⟨w.heap.size+1+1,0,none⟩)]) rfl trivial (enters_of Tryz.func95 jb rfl)
  (yaa0 (n-1) U (w.heap.size+1+1) f _ hS0) KeepB.trans (yadl jc) (qaf _ _) (fun _=>rfl)
  (fun pre W=>(∃v,Boxed W (w.heap.size+1) 85 v/\W.ownsRow (w.heap.size+3) 87 2 v (accR pre).length (z9b (accR pre))/\True)/\Below (w.heap.size+1) (w.alloc S) W/\w.heap.size+3<=W.heap.size)
  (fun _ _ _=>False)
  (OwnFrom.and (Own.from (holdsRow_own (w.heap.size+3) (w.heap.size+1) 85 87 2 (fun pre:List By=>(accR pre).length) (fun pre=>z9b (accR pre)) (fun _ _=>True)) _) (OwnFrom.and (ownFrom_below jc jc) (Own.from (fun _ _ _ _ hs hg _=>qal hs hg.size) _)))
  (fun _ _ _ _ _ hs _ _=>hs)
  ⟨⟨_,bO.alloc _,qav _ _ _ _,trivial⟩,hB0,jc⟩
  (fun x=>yabz f w.heap.size x.1) ?assign ?body ?done ?stop
 case assign=>
  intro l x W K hK;unfold yabz at hK
  gi_wp2
  exact hK
 case body=>
  rintro l pre x W ⟨⟨v,hv,hrow,-⟩,hB,hsz⟩ hlt;clear hSv bO hB0 hS0;have hc:=hv.cell;have hal:=yaiw pre;have hst:=yag0 pre x;obtain⟨x,hx⟩:=x;unfold yabz;dsimp only at hst ⊢;rcases yaaq (accR pre) with h0|⟨l',a,b,h1⟩
  ·rw[h0] at hrow
   rw[h0,z94] at hst;obtain⟨a,cap,rfl⟩:∃a cap,v=jf a 0 cap:=by
    rcases hrow.2 with⟨h,_⟩|⟨g,cap,cur,h,_⟩
    ·exact⟨_,_,h⟩
    ·exact⟨_,_,h⟩
   have HS:=qaa hst;clear hst h0;have hrow0:W.ownsRow (w.heap.size+3) 87 2 (jf a 0 cap) 0 []:=hrow;clear hrow
   gi_wp2_with (gi_at_builtin;go_loud (refine wpListIn_append_own _ rfl _ _ 85 rfl (w.heap.size+3) 87 i0 (.agg #[je jl 0,je jl 0]) 2 2 Tryz.underlying85 hi hz0 hz1 hz2 rfl ja _ _ _ rfl (hrow0.alloc _) ⟨W.heap.size,0,none⟩ 1 1 [je jl (x:Int),je jl (x:Int)] rfl rfl (cell_two_new _ _ _ _) (by simp[Value.oneCell']) (by unfold maxLen;omega) U (by simp;omega) ?_);intro v' w1 hown' hgrow _;obtain⟨g',cap',rfl⟩:=ownsRow_succ hown';obtain⟨hv1,hv2,hr2,hk2,hb2⟩:=hv.appended ja (z89 hrow0 U) U (qac _) (z89 hown' U) hgrow;have hc1:=hv1.cell;have hf1:=hv1.frozen)
   change (World.alloc W _).grownBy w1 (Value.ownBlock (jf a 0 cap)) at hgrow;have hkb:=z95 (B:=w.heap.size+1) (Bs:=w.heap.size+1+1) (v':=jf (some ⟨g',0,none⟩) (0+1) cap') hrow0 hgrow U U U;have hrow':=hown'.kept (grownBy_setCell' w1 (w.heap.size+1) (jf (some ⟨g',0,none⟩) (0+1) cap')) (.inr (hv1.not_row ja hown').symm);exact⟨hk2.from _,hkb,⟨_,hv2,(by rw[HS.out];exact hrow'),trivial⟩,hB.trans hb2,qal hsz hkb.1⟩
  ·rw[h1,z9e] at hst
   rw[h1,qad,List.length_singleton,z9f] at hrow;rw[h1,qad] at hal;obtain⟨g,cap,rfl⟩:=ownsRow_succ hrow;have hcell:=hrow.cells rfl (l'.length*2+1) (je jl (b:Int)) (by rw[List.getElem?_append_right (by rw[z9p];omega),z9p,show l'.length*2+1-l'.length*2=1 from by omega];rfl);rw[Addr.add_lit,Nat.zero_add] at hcell;have hal':l'.length+1<=pre.length:=hal;clear h1 hal;have hfz:=hrow.frozenAt (l'.length*2+1);by_cases hbx:b=(x+255)%256
   ·rw[if_pos hbx] at hst
    have HS:=qaa hst;have he:((b:Int) == ((x:Int)-1)%256)=true:=by rw[beq_iff_eq];omega
    clear hst hbx
    gi_wp2
    obtain⟨hrow1,hg1⟩:=hrow.stored (l'.length*2+1) (je jl (x:Int));have hgl:=(hrow.lt g rfl).1;have hset:(z9b l'++[Value.int .u8 (a:Int),je jl (b:Int)]).set (l'.length*2+1) (je jl (x:Int))=z9b (l'++[(a,x)]):=by
     rw[z9f,List.set_append_right _ _ (by rw[z9p];omega),z9p,show l'.length*2+1-l'.length*2=1 from by omega];rfl
    rw[hset] at hrow1;refine⟨(KeepsOthers.setCell _ _ _).from _,⟨jc,?_⟩,⟨_,hv.kept hg1 (by intro e;injection e;omega),(by rw[HS.out,qad];exact hrow1)⟩,hB.setCell (by show w.heap.size+1<=g;omega) _,by simpa using hsz⟩;exact Below.heap_setCell _ _ _ _ (by show w.heap.size+1+1≠g;omega)
   ·rw[if_neg hbx] at hst
    have HS:=qaa hst;have he:((b:Int) == ((x:Int)-1)%256)=false:=by rw[beq_eq_false_iff_ne];omega
    clear hst hbx
    gi_wp2_with (gi_at_builtin;go_loud (refine wpListIn_append_own _ rfl _ _ 85 rfl (w.heap.size+3) 87 i0 (.agg #[je jl 0,je jl 0]) 2 2 Tryz.underlying85 hi hz0 hz1 hz2 rfl ja _ _ _ rfl (hrow.alloc _) ⟨W.heap.size,0,none⟩ 1 1 [je jl (x:Int),je jl (x:Int)] rfl rfl (cell_two_new _ _ _ _) (by simp[Value.oneCell']) (by unfold maxLen;omega) U (by simp;omega) ?_);intro v' w1 hown' hgrow _;obtain⟨g',cap',rfl⟩:=ownsRow_succ hown';obtain⟨hv1,hv2,hr2,hk2,hb2⟩:=hv.appended ja (z89 hrow U) U (qac _) (z89 hown' U) hgrow;have hc1:=hv1.cell;have hf1:=hv1.frozen)
    change (World.alloc W _).grownBy w1 (Value.ownBlock (jf (some ⟨g,0,none⟩) (l'.length+1) cap)) at hgrow;have hkb:=z95 (B:=w.heap.size+1) (Bs:=w.heap.size+1+1) (v':=jf (some ⟨g',0,none⟩) (l'.length+1+1) cap') hrow hgrow U U U;have hrow':=hown'.kept (grownBy_setCell' w1 (w.heap.size+1) (jf (some ⟨g',0,none⟩) (l'.length+1+1) cap')) (.inr (hv1.not_row ja hown').symm);exact⟨hk2.from _,hkb,⟨_,hv2,(by rw[HS.out,qad,qad,z9f,z9f];exact hrow')⟩,hB.trans hb2,qal hsz hkb.1⟩
 case done=>
  rintro D ys W hD hys ⟨⟨v,hv,hrow,-⟩,hB,hsz⟩ hK;have hc:=hv.cell
  gi_wp2
  refine⟨jc,.inl ⟨_,_,rfl,run_takeDeferred hK,?_⟩⟩;have el:accR ys=z85 f 256:=by unfold accR;rw[hys,yadh]
  rw[el] at hrow;exact⟨_,results_tmp rfl _ _ _,v,rfl,z89 (ownsRow_putObj hrow _ hK rfl) U,((qaf _ w).alloc (qac _) S).trans ((hB.trans (belowK_b (w:=w.alloc S) jc W D _ _ (by simp at hD;simp;omega) hK rfl rfl)).mono U)⟩
 case stop=>
  rintro D c pre W _ _ h _;exact h.elim
theorem yaix (f:Nat->Bool)(w:World) :
  Calls qab 39 #[.agg #[je jg (setW f 0),je jg (setW f 1),je jg (setW f 2),je jg (setW f 3)]] w fun e W'=>
   ∃v,e=.returned v/\W'.ownsRow w.heap.size 87 2 v (z85 f 256).length (z9b (z85 f 256))/\Below w.heap.size w W':=
 callsIn_wide.1 (yakg 3 U f w)
end
section
open Go.RowKit Go.Shelf
theorem yaiy (f:Nat->Bool)(n:Nat)(k:Int)(hn:cnt f 256=n)(hk:(n:Int)=k)(w:World) :
  Calls qab 36 #[.agg #[je jg (setW f 0),je jg (setW f 1),je jg (setW f 2),je jg (setW f 3)]] w fun e w'=>e=.returned (je jd k)/\Below w.heap.size w w':=by
 subst hn hk;exact yagt f w
end
section
open Go.RowKit Go.Shelf
end
section
open Go.RowKit Go.Shelf
end
