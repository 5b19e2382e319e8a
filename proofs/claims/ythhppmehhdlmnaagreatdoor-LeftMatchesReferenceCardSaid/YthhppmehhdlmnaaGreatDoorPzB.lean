/- Small lemmas that the texts of several stages use: old memory over new, rows of values, numbers and strings in a walk. Sets of bytes: the arithmetic, the walks  -/
import Derived.Test.YthhppmehhdlmnaaGreatDoorProg
import Derived.WalkKit
import Derived.ProofKit
import Derived.Outline
import Derived.Handy
import Derived.Below
import Derived.OwnWalk
import Derived.Lib.Hide
import Derived.Lib.BufferRead
import Derived.Deep.QuietTactic
import Derived.Laws.BitsAllLaws
import Derived.RegionTactic
import Derived.ChangeAlike
import Derived.Laws.AppendOwn
import Derived.Maps.AppendAt
import Derived.Test.YthhppmehhdlmnaaGreatDoorPzA
set_option maxRecDepth 100000
set_option maxHeartbeats 400000
namespace Go.Proofs.YthhppmehhdlmnaaGreatDoor
open Go.RowKit
theorem bcell {n:Nat}{W w1:World}(hb:Below n W w1):(∀b o,b<n->w1.cell? ⟨b,o,none⟩=W.cell? ⟨b,o,none⟩)/\(∀b o,b<n->w1.frozen? ⟨b,o,none⟩=W.frozen? ⟨b,o,none⟩):=
 ⟨fun b o h=>hb.cell (p:=⟨b,o,none⟩) h,fun b o h=>hb.frozen (p:=⟨b,o,none⟩) h⟩
theorem zaf {a b:Bool}(h:a=b):Ending.returned (.bool a)=.returned (.bool b):=by rw[h]
theorem zdv {k:IntKind}{a b:Int}(h:a=b):Ending.returned (.int k a)=.returned (.int k b):=by rw[h]
theorem zac {w:World}{b o:Nat}{v:Value}(h:w.cell? ⟨b,o,none⟩=some v):b<w.heap.size:=by
 rcases Nat.lt_or_ge b w.heap.size with h'|h'
 ·exact h'
 ·simp[World.cell?,Array.getElem?_eq_none h'] at h
def RowAt (w:World)(v:Value)(cs:List Value):Prop:=∃a cap,v=.slice a cs.length cap/\(cs=[]∨∃b off,a=some ⟨b,off,none⟩/\∀i c,cs[i]?=some c->w.cell? ⟨b,off+i,none⟩=some c)
theorem RowAt.kept {n:Nat}{w w':World}{v:Value}{cs:List Value}(h:RowAt w v cs)(hb:Below n w w')(hn:w.heap.size<=n):RowAt w' v cs:=by
 obtain⟨a,cap,rfl,h⟩:=h;rcases h with h|⟨b,off,rfl,hc⟩
 ·exact⟨a,cap,rfl,.inl h⟩
 ·exact⟨_,cap,rfl,.inr ⟨b,off,rfl,fun i c hi=>by have:=zac (hc i c hi);rw[(bcell hb).1 _ _ (by omega)];exact hc i c hi⟩⟩
theorem RowAt.below {w w':World}{v:Value}{cs:List Value}(h:RowAt w v cs)(hb:Below w.heap.size w w'):RowAt w' v cs:=h.kept hb (Nat.le_refl _)
theorem RowAt.of_owns {w:World}{base:Nat}{t:TypeId}{v:Value}{n:Nat}{cs:List Value}(h:w.ownsRow base t 1 v n cs)(hn:cs.length=n):RowAt w v cs:=by
 subst hn;have h':=h;obtain⟨-,⟨rfl,h0⟩|⟨g,cap,cur,rfl,-⟩⟩:=h'
 ·exact⟨none,0,by rw[h0],.inl (List.length_eq_zero_iff.1 h0)⟩
 ·refine⟨_,cap,rfl,.inr ⟨g,0,rfl,fun i c hc=>?_⟩⟩
  have:=h.cells rfl i c hc;rw[Addr.add_lit] at this;exact this
theorem zap {α:Type}(l:List α)(k:Nat)(x:α)(h:l[k]?=some x):l.take (k+1)=l.take k++[x]:=by
 obtain⟨h1,h2⟩:=List.getElem?_eq_some_iff.1 h;rw[List.take_succ_eq_append_getElem h1,h2]
theorem z3j:(Tryz.prog.info? 5).map (fun i=>(i.zero,i.size,i.bytes))=some (some (.int .u8 0),1,1):=by kernel_rfl
theorem zg9 {w w':World}(h:Below w.heap.size w w'):w.grownBy w' none:=⟨h.os,h.tape,h.output,h.size,fun k hk _=>h.block k hk⟩
def u8s (l:List Nat):List Value:=l.map fun k:Nat=>Value.int .u8 (k:Int)
theorem zzm (l:List Nat)(k:Nat):u8s (l++[k])=u8s l++[.int .u8 (k:Int)]:=by unfold u8s;rw[List.map_append];rfl
theorem zaa {W w1:World}{base:Nat}{e:TypeId}{size:Nat}{v:Value}{k:Nat}{xs:List Value}(h:W.ownsRow base e size v k xs)(hb:Below W.heap.size W w1):w1.ownsRow base e size v k xs:=by
 refine h.kept (zg9 hb) ?_;cases hv:v.ownBlock with
 |none=>exact .inl rfl
 |some b=>exact .inr (by simp)
theorem zak {B m:Nat}{a w:World}(h:Below B a w):Below B a (w.drewN m):=⟨h.os,h.tape,h.output,h.size,h.block⟩
theorem zaq (w:World)(x:Value)(t:TypeId):∀j u,[x][j]?=some u->(w.alloc (.cells #[x] t)).cell? ((⟨w.heap.size,0,none⟩:Addr).add j)=some u:=by
 intro j u hj
 match j,hj with
 |0,hj=>simp at hj;subst hj;simp[Addr.add]
theorem zi9 (l:List Nat):(u8s l).length=l.length:=by unfold u8s;rw[List.length_map]
theorem za2 {d:Nat}{k:Int}(h:(d:Int)≠k):((d:Int) == k)=false:=by rw[beq_eq_false_iff_ne];exact h
theorem zja {s:ByteArray}(h:0<s.size):s.toList.isEmpty=false:=by
 rw[ByteArray.toList_eq];cases hl:s.data.toList with
 |nil=>have:=congrArg List.length hl;rw[Array.length_toList] at this;exact absurd this (by show ¬s.size=0;omega)
 |cons _ _=>rfl
theorem zhx {s:ByteArray}(h:¬0<s.size):s.toList.isEmpty=true:=by
 rw[ByteArray.toList_eq];cases hl:s.data.toList with
 |nil=>rfl
 |cons a l=>have:=congrArg List.length hl;rw[Array.length_toList,List.length_cons] at this;exact absurd this (by show ¬s.size=_;omega)
theorem zaj {c k:Int}(h:c≠k):(c == k)=false:=by rw[beq_eq_false_iff_ne];exact h
theorem zbx {c k:Int}(h:c≠k):(c != k)=true:=by rw[bne_iff_ne];exact h
theorem zzn {w:World}{v:Value}{l:List Nat}(h:RowAt w v (u8s l))(hl:∀x,x ∈ l->x<256):(convert 105 9 v).run Tryz.prog w=.ok (.string (strOf l)) w:=by
 obtain⟨a,cap,rfl,h⟩:=h;rcases h with h0|⟨b,off,rfl,hc⟩
 ·have:l=[]:=List.map_eq_nil_iff.1 h0
  subst this;cases a with
  |none=>exact Lib.run_convert_nil_bytes w _ _ _ cap Tryz.underlying105 Tryz.underlying5 Tryz.underlying9
  |some a=>exact run_convert_bytes_back w _ _ _ a cap [] Tryz.underlying105 Tryz.underlying5 Tryz.underlying9 (fun j hj=>absurd hj (by simp))
 ·have hlen:(u8s l).length=(l.map UInt8.ofNat).length:=by rw[zi9,List.length_map]
  rw[hlen];refine run_convert_bytes_back w _ _ _ ⟨b,off,none⟩ cap (l.map UInt8.ofNat) Tryz.underlying105 Tryz.underlying5 Tryz.underlying9 (fun j hj=>?_);rw[Addr.add_lit];have hj':j<l.length:=by simpa using hj
  have:=hc j (.int .u8 ((l[j]:Nat):Int)) (by unfold u8s;rw[List.getElem?_map,List.getElem?_eq_getElem hj'];rfl);rw[this];congr 2;rw[List.getElem_map];have:=hl _ (List.getElem_mem hj');simp;omega
end Go.Proofs.YthhppmehhdlmnaaGreatDoor
namespace Go.Proofs.YthhppmehhdlmnaaGreatDoor
section
def zfs (f:Nat->Bool):Nat->Nat
 |0=>0
 |n+1=>zfs f n+(f n).toNat*2 ^ n
theorem zmj (f:Nat->Bool)(n:Nat):zfs f n<2 ^ n:=by
 induction n with
 |zero=>simp[zfs]
 |succ n ih=>
  unfold zfs;have:(f n).toNat<=1:=Bool.toNat_le _;have h2:(f n).toNat*2 ^ n<=1*2 ^ n:=Nat.mul_le_mul_right _ this;rw[Nat.pow_succ];omega
theorem zi0 (f:Nat->Bool)(n k:Nat):(zfs f n).testBit k=(decide (k<n)&&f k):=by
 induction n with
 |zero=>simp[zfs]
 |succ n ih=>
  have hl:=zmj f n;unfold zfs;rw[Nat.add_comm,Nat.mul_comm,Nat.testBit_two_pow_mul_add _ hl];by_cases hk:k<n
  ·simp[hk,ih,show k<n+1 from by omega]
  ·simp only[hk,if_false]
   by_cases he:k=n
   ·subst he;cases f k<;>simp
   ·have:k-n≠0:=by omega
    have h1:¬k<n+1:=by omega
    simp only[h1,decide_false,Bool.false_and];cases f n
    ·simp
    ·obtain⟨m,hm⟩:∃m,k-n=m+1:=⟨k-n-1,by omega⟩
     rw[hm];simp[Nat.testBit_succ]
def setW (f:Nat->Bool)(k:Nat):Int:=((zfs (fun j=>f (64*k+j)) 64:Nat):Int)
theorem zhy (f:Nat->Bool)(k:Nat):0<=setW f k:=by unfold setW;omega
theorem zhz (f:Nat->Bool)(k:Nat):setW f k<=18446744073709551615:=by
 have:=zmj (fun j=>f (64*k+j)) 64;unfold setW;omega
theorem zft (f:Nat->Bool)(k j:Nat)(hj:j<64):(setW f k).toNat.testBit j=f (64*k+j):=by
 unfold setW;rw[Int.toNat_natCast,zi0];simp[hj]
theorem zzo {a b:Int}(ha:0<=a)(ha':a<=18446744073709551615)(hb:0<=b)(hb':b<=18446744073709551615)(h:∀j,j<64->a.toNat.testBit j=b.toNat.testBit j):a=b:=by
 have:a.toNat=b.toNat:=by
  apply Nat.eq_of_testBit_eq;intro i;by_cases hi:i<64
  ·exact h i hi
  ·have h64:(2:Nat) ^ 64<=2 ^ i:=Nat.pow_le_pow_right (by omega) (by omega)
   rw[Nat.testBit_lt_two_pow (by omega),Nat.testBit_lt_two_pow (by omega)]
 omega
theorem zhd {a:Int}{f:Nat->Bool}{k:Nat}(ha:0<=a)(ha':a<=18446744073709551615)(h:∀j,j<64->a.toNat.testBit j=f (64*k+j)):a=setW f k:=
 zzo ha ha' (zhy _ _) (zhz _ _) fun j hj=>by rw[h j hj,zft _ _ _ hj]
theorem zct {f g:Nat->Bool}{k:Nat}(h:∀j,j<64->f (64*k+j)=g (64*k+j)):setW f k=setW g k:=
 zhd (zhy _ _) (zhz _ _) fun j hj=>by rw[zft _ _ _ hj,h j hj]
theorem zoe {f g:Nat->Bool}{k:Nat}(hk:k<4)(h:∀i,i<256->f i=g i):setW f k=setW g k:=
 zct fun j hj=>h _ (by omega)
theorem zh0 (f g:Nat->Bool)(k:Nat):bits BinOp.or IntKind.u64 (setW f k) (setW g k)=setW (fun i=>f i || g i) k:=by
 have a1:=zhy f k;have a2:=zhz f k;have b1:=zhy g k;have b2:=zhz g k;rw[Go.u64_or _ _ a1 (by omega) b1 (by omega)];have hl:((setW f k).toNat ||| (setW g k).toNat)<2 ^ 64:=Nat.or_lt_two_pow (by omega) (by omega);refine zhd (by omega) (by omega) fun j hj=>?_
 rw[Int.toNat_natCast,Nat.testBit_or,zft _ _ _ hj,zft _ _ _ hj]
theorem zhe (f:Nat->Bool)(k:Nat):bits BinOp.xor IntKind.u64 IntKind.u64.max (setW f k)=setW (fun i=>!f i) k:=by
 have a1:=zhy f k;have a2:=zhz f k;rw[show IntKind.u64.max=(18446744073709551615:Int) from rfl,Go.u64_xor _ _ (by omega) (by omega) a1 (by omega)];have hl:((18446744073709551615:Int).toNat ^^^ (setW f k).toNat)<2 ^ 64:=Nat.xor_lt_two_pow (by decide) (by omega);refine zhd (by omega) (by omega) fun j hj=>?_
 rw[Int.toNat_natCast,Nat.testBit_xor,zft _ _ _ hj];have:(18446744073709551615:Int).toNat=2 ^ 64-1:=by decide
 rw[this,Nat.testBit_two_pow_sub_one];simp[hj]
end
section
def cnt (f:Nat->Bool):Nat->Nat
 |0=>0
 |n+1=>cnt f n+(f n).toNat
theorem zmk (f:Nat->Bool)(n:Nat):cnt f n<=n:=by
 induction n with
 |zero=>simp[cnt]
 |succ n ih=>unfold cnt;have:(f n).toNat<=1:=Bool.toNat_le _;omega
def p1 (m x:Nat):Nat:=((x/2) &&& m)+(x &&& m)
def p2 (m x:Nat):Nat:=((x/4) &&& m)+(x &&& m)
def p3 (m x:Nat):Nat:=(x/16+x) &&& m
theorem zof (n:Int)(h0:0<=n)(h1:n<18446744073709551616):IntKind.u64.wrap n=n:=by
 rw[IntKind.wrap_u64];omega
end
section
open Go.RowKit
theorem ix0 (x y z u:Value)(w:World):(Instr.index 49 (.agg #[x,y,z,u]) (.int .i64 0)).run Tryz.prog w=.ok x w:=by kernel_rfl
theorem ix1 (x y z u:Value)(w:World):(Instr.index 49 (.agg #[x,y,z,u]) (.int .i64 1)).run Tryz.prog w=.ok y w:=by kernel_rfl
theorem ix2 (x y z u:Value)(w:World):(Instr.index 49 (.agg #[x,y,z,u]) (.int .i64 2)).run Tryz.prog w=.ok z w:=by kernel_rfl
theorem ix3 (x y z u:Value)(w:World):(Instr.index 49 (.agg #[x,y,z,u]) (.int .i64 3)).run Tryz.prog w=.ok u w:=by kernel_rfl
theorem zup {n:Nat}{w w1:World}{x y z u:Value}{t:TypeId}(hb:Below n (w.alloc (.cells #[x,y,z,u] t)) w1)(hn:w.heap.size<n) :
  w1.cell? ⟨w.heap.size,0,none⟩=some x/\w1.cell? ⟨w.heap.size,1,none⟩=some y/\w1.cell? ⟨w.heap.size,2,none⟩=some z/\w1.cell? ⟨w.heap.size,3,none⟩=some u:=by
 refine⟨?_,?_,?_,?_⟩
 ·rw[(bcell hb).1 _ _ hn];simp
 ·rw[(bcell hb).1 _ _ hn];simp
 ·rw[(bcell hb).1 _ _ hn];simp
 ·rw[(bcell hb).1 _ _ hn];simp
theorem zog {a b c d a' b' c' d':Int}(h0:a=a')(h1:b=b')(h2:c=c')(h3:d=d'):Ending.returned (.agg #[.int .u64 a,.int .u64 b,.int .u64 c,.int .u64 d])=.returned (.agg #[.int .u64 a',.int .u64 b',.int .u64 c',.int .u64 d']):=by rw[h0,h1,h2,h3]
theorem zuq (f g:Nat->Bool)(w:World) :
  Calls Tryz.prog 191 #[.agg #[.int .u64 (setW f 0),.int .u64 (setW f 1),.int .u64 (setW f 2),.int .u64 (setW f 3)],.agg #[.int .u64 (setW g 0),.int .u64 (setW g 1),.int .u64 (setW g 2),.int .u64 (setW g 3)]] w
   fun e w'=>e=.returned (.agg #[.int .u64 (setW (fun i=>f i || g i) 0),.int .u64 (setW (fun i=>f i || g i) 1),.int .u64 (setW (fun i=>f i || g i) 2),.int .u64 (setW (fun i=>f i || g i) 3)])/\Below w.heap.size w w':=by
 have i0:=ix0;have i1:=ix1;have i2:=ix2;have i3:=ix3;go_enter Tryz.func191,Tryz.ntmps191;go_wp2
 go_rounds 5
 go_returns
 exact⟨zog (zh0 _ _ _) (zh0 _ _ _) (zh0 _ _ _) (zh0 _ _ _),by go_grown⟩
theorem z4i (f:Nat->Bool)(w:World) :
  Calls Tryz.prog 203 #[.agg #[.int .u64 (setW f 0),.int .u64 (setW f 1),.int .u64 (setW f 2),.int .u64 (setW f 3)]] w
   fun e w'=>e=.returned (.agg #[.int .u64 (setW (fun i=>!f i) 0),.int .u64 (setW (fun i=>!f i) 1),.int .u64 (setW (fun i=>!f i) 2),.int .u64 (setW (fun i=>!f i) 3)])/\Below w.heap.size w w':=by
 have i0:=ix0;have i1:=ix1;have i2:=ix2;have i3:=ix3;go_enter Tryz.func203,Tryz.ntmps203;go_wp2
 go_rounds 5
 go_returns
 exact⟨zog (zhe _ _) (zhe _ _) (zhe _ _) (zhe _ _),by go_grown⟩
theorem zbs (k:Nat):setW (fun _=>false) k=0:=by
 have:zfs (fun _=>false) 64=0:=by decide +kernel
 unfold setW;rw[this];rfl
theorem zzp (w:World) :
  Calls Tryz.prog 201 #[] w
   fun e w'=>e=.returned (.agg #[.int .u64 (setW (fun _=>true) 0),.int .u64 (setW (fun _=>true) 1),.int .u64 (setW (fun _=>true) 2),.int .u64 (setW (fun _=>true) 3)])/\Below w.heap.size w w':=by
 have h:=z4i (fun _=>false);rw[zbs 0,zbs 1,zbs 2,zbs 3] at h;have H:=Lib.hid h;clear h;go_enter Tryz.func201,Tryz.ntmps201
 go_wp2_with (refine(H.out _).mono ?_;rintro e w1 ⟨rfl,hb⟩;obtain⟨hc,hf⟩:=bcell hb;obtain⟨c0,c1,c2,c3⟩:=zup hb (by simp))
 refine bodyPost_ret (v:=.agg #[.int .u64 (setW (fun _=>true) 0),.int .u64 (setW (fun _=>true) 1),.int .u64 (setW (fun _=>true) 2),.int .u64 (setW (fun _=>true) 3)]) (by simp[results,Tryz.results201,go_sem,c0,c1,c2,c3]) rfl ⟨rfl,?_⟩;exact((((((Below.refl _ w).alloc (Nat.le_refl _) _).trans (hb.mono (by simp))).setCell (Nat.le_refl _) _).setCell (Nat.le_refl _) _).setCell (Nat.le_refl _) _).setCell (Nat.le_refl _) _
end
section
open Go.RowKit
def SetAt (f:Nat->Bool)(B:Nat)(w:World):Prop:=∀j,j<4->w.cell? ⟨B,j,none⟩=some (.int .u64 (setW f j))/\w.frozen? ⟨B,j,none⟩=false
theorem SetAt.drew {f:Nat->Bool}{B:Nat}{w:World}(h:SetAt f B w):SetAt f B w.drew:=fun j hj=>by simpa using h j hj
theorem SetAt.congr {f g:Nat->Bool}{B:Nat}{w:World}(h:SetAt f B w)(e:∀i,i<256->f i=g i):SetAt g B w:=fun j hj=>by
 rw[<-zoe hj e];exact h j hj
theorem SetAt.below {f:Nat->Bool}{B n:Nat}{w w':World}(h:SetAt f B w)(hb:Below n w w')(hB:B<n):SetAt f B w':=fun j hj=>
 ⟨(hb.cell (p:=⟨B,j,none⟩) hB).trans (h j hj).1,(hb.frozen (p:=⟨B,j,none⟩) hB).trans (h j hj).2⟩
theorem SetAt.four {f:Nat->Bool}{B:Nat}{w:World}(h:SetAt f B w) :
  (w.cell? ⟨B,0,none⟩=some (.int .u64 (setW f 0))/\w.cell? ⟨B,1,none⟩=some (.int .u64 (setW f 1))/\w.cell? ⟨B,2,none⟩=some (.int .u64 (setW f 2))/\w.cell? ⟨B,3,none⟩=some (.int .u64 (setW f 3)))
   /\ (w.frozen? ⟨B,0,none⟩=false/\w.frozen? ⟨B,1,none⟩=false/\w.frozen? ⟨B,2,none⟩=false/\w.frozen? ⟨B,3,none⟩=false):=
 ⟨⟨(h 0 (by omega)).1,(h 1 (by omega)).1,(h 2 (by omega)).1,(h 3 (by omega)).1⟩,⟨(h 0 (by omega)).2,(h 1 (by omega)).2,(h 2 (by omega)).2,(h 3 (by omega)).2⟩⟩
theorem SetAt.new {w:World}{t:TypeId}{f:Nat->Bool}{a b c d:Int}{B:Nat}(hB:B=w.heap.size)(h0:a=setW f 0)(h1:b=setW f 1)(h2:c=setW f 2)(h3:d=setW f 3) :
  SetAt f B (w.alloc (.cells #[.int .u64 a,.int .u64 b,.int .u64 c,.int .u64 d] t)):=fun j hj=>by
 subst hB h0 h1 h2 h3;have:j=0∨j=1∨j=2∨j=3:=by omega
 rcases this with rfl|rfl|rfl|rfl<;>simp
def ins (f:Nat->Bool)(k:Nat):Nat->Bool:=fun i=>f i || i == k
theorem zzq (k:Nat):IntKind.u64.wrap (2 ^ (k%64))=setW (fun i=>i == k) (k/64):=by
 have hp:(2:Nat) ^ (k%64)<2 ^ 64:=Nat.pow_lt_pow_right (by omega) (by omega);have e:(2:Int) ^ (k%64)=((2 ^ (k%64):Nat):Int):=by rw[Int.natCast_pow];rfl
 generalize hq:(2:Nat) ^ (k%64)=q at hp e;rw[e,zof _ (by omega) (by omega)];refine zhd (by omega) (by omega) fun j hj=>?_
 rw[Int.toNat_natCast,<-hq,Nat.testBit_two_pow];rw[Bool.eq_iff_iff];simp;omega
theorem zqn (f:Nat->Bool)(k:Nat):bits BinOp.or IntKind.u64 (setW f (k/64)) (IntKind.u64.wrap (2 ^ (k%64)))=setW (ins f k) (k/64):=by
 rw[zzq,zh0];rfl
theorem SetAt.put {f:Nat->Bool}{B k:Nat}{w:World}{v:Int}(h:SetAt f B w)(hv:v=setW (ins f k) (k/64)):SetAt (ins f k) B (w.setCell ⟨B,k/64,none⟩ (.int .u64 v)):=fun j hj=>by
 subst hv;refine⟨?_,by rw[World.frozen?_setCell];exact(h j hj).2⟩;by_cases e:j=k/64
 ·subst e;exact World.cell?_setCell_same' _ _ _ (by rw[(h _ hj).1];rfl)
 ·rw[World.cell?_setCell_other (h:=by intro hh;injection hh with _ h2;exact e h2.symm),(h j hj).1]
  congr 2;refine zct fun i hi=>?_
  have:(64*j+i == k)=false:=by rw[beq_eq_false_iff_ne];omega
  unfold ins;rw[this];simp
def inR (lo hi:Nat):Nat->Bool:=fun i=>decide (lo<=i)&&decide (i<hi)
theorem zhf (lo k:Nat):setW (inR lo lo) k=0:=by
 have:inR lo lo=fun _=>false:=by funext i;unfold inR;simp
 rw[this,zbs]
theorem z4j (lo k i:Nat)(h:lo<=k):ins (inR lo k) k i=inR lo (k+1) i:=by
 unfold ins inR;rw[Bool.eq_iff_iff];simp;omega
theorem zur (lo hi:Int)(w:World)(h0:0<=lo)(h1:lo<=255)(h2:0<=hi)(h3:hi<=255) :
  Calls Tryz.prog 192 #[.int .u8 lo,.int .u8 hi] w
   fun e w'=>e=.returned (.agg #[.int .u64 (setW (inR lo.toNat (hi.toNat+1)) 0),.int .u64 (setW (inR lo.toNat (hi.toNat+1)) 1),.int .u64 (setW (inR lo.toNat (hi.toNat+1)) 2),.int .u64 (setW (inR lo.toNat (hi.toNat+1)) 3)])/\Below w.heap.size w w':=by
 go_enter Tryz.func192,Tryz.ntmps192;go_wp2
 go_loopw [6] (fun c wr=>∃k:Nat,lo.toNat<=k/\(k<=lo.toNat∨k<=hi.toNat+1)/\c=.int .i64 k/\SetAt (inR lo.toNat k) (w.heap.size+1) wr/\Below (w.heap.size+1) (w.alloc (.cells #[.int .u64 0,.int .u64 0,.int .u64 0,.int .u64 0] 49)) wr/\w.heap.size+1<wr.heap.size) (fun c _=>(256-(intOf c).toNat))
 case atStart=>
  exact⟨lo.toNat,Nat.le_refl _,.inl (Nat.le_refl _),by congr 1;omega,SetAt.new (by simp) (zhf _ _).symm (zhf _ _).symm (zhf _ _).symm (zhf _ _).symm,(Below.refl _ _).alloc (by simp) _,by simp⟩
 case round=>
  obtain⟨k,hk1,hk2,rfl,hs,hb,hz⟩:=hrel;by_cases hlt:(k:Int)<=hi
  ·have hc:=(hs (k/64) (by omega)).1
   have hf:=(hs (k/64) (by omega)).2;go_wp2
   go_region
   go_wp2;go_roundw
   case rel=>exact⟨k+1,by omega,.inr (by omega),by go_num,((hs.put (zqn _ _)).congr fun i _=>z4j _ _ _ hk1).drew,(hb.setCell (Nat.le_refl _) _).drew,by simpa using hz⟩
   case measure=>simp[intOf];omega
  ·have e:setW (inR lo.toNat k)=setW (inR lo.toNat (hi.toNat+1)):=by
    by_cases hle:k=hi.toNat+1
    ·rw[hle]
    ·have:inR lo.toNat k=inR lo.toNat (hi.toNat+1):=by
      funext i;unfold inR;rw[Bool.eq_iff_iff];simp;omega
     rw[this]
   have e0:=congrFun e 0;have e1:=congrFun e 1;have e2:=congrFun e 2;have e3:=congrFun e 3;have E0:=Lib.hid e0;have E1:=Lib.hid e1;have E2:=Lib.hid e2;have E3:=Lib.hid e3;clear e e0 e1 e2 e3;obtain⟨⟨c0,c1,c2,c3⟩,-⟩:=hs.four;obtain⟨d0,d1,d2,d3⟩:=zup hb (by omega);obtain⟨-,hfz⟩:=bcell hb;go_wp2;refine bodyPost_ret (v:=.agg #[.int .u64 (setW (inR lo.toNat k) 0),.int .u64 (setW (inR lo.toNat k) 1),.int .u64 (setW (inR lo.toNat k) 2),.int .u64 (setW (inR lo.toNat k) 3)]) (by simp[results,Tryz.results192,go_sem,d0,d1,d2,d3]) rfl ⟨zog E0.out E1.out E2.out E3.out,?_⟩;exact((((((Below.refl _ w).alloc (Nat.le_refl _) _).trans (hb.mono (by omega))).setCell (Nat.le_refl _) _).setCell (Nat.le_refl _) _).setCell (Nat.le_refl _) _).setCell (Nat.le_refl _) _
end
section
open Go.RowKit
def lset (l:List Int):Nat->Bool:=fun i=>l.any fun x=>i == x.toNat
theorem zus (l:List Int)(x:Int):lset (l++[x])=ins (lset l) x.toNat:=by
 funext i;unfold lset ins;rw[List.any_append];simp
theorem z7v (l:List Int)(v:Value)(w:World)(hv:RowAt w v (l.map (Value.int .u8)))(hl:∀x,x ∈ l->0<=x/\x<=255)(hn:l.length<=9223372036854775807) :
  Calls Tryz.prog 202 #[v] w
   fun e w'=>e=.returned (.agg #[.int .u64 (setW (lset l) 0),.int .u64 (setW (lset l) 1),.int .u64 (setW (lset l) 2),.int .u64 (setW (lset l) 3)])/\Below w.heap.size w w':=by
 obtain⟨a,cap,rfl,hcs⟩:=hv;rw[List.length_map];have HC:=Lib.hid hcs;have HL:=Lib.hid hl;clear hcs hl;go_enter Tryz.func202,Tryz.ntmps202;go_wp2
 go_loopw [8] (fun c wr=>∃k:Nat,k<=l.length/\c=.int .i64 k/\SetAt (lset (l.take k)) (w.heap.size+1) wr/\Below (w.heap.size+1) (w.alloc (.cells #[.int .u64 0,.int .u64 0,.int .u64 0,.int .u64 0] 49)) wr/\w.heap.size+1<wr.heap.size) (fun c _=>(l.length-(intOf c).toNat))
 case atStart=>
  have e:lset (l.take 0)=fun _=>false:=by funext i;simp[lset]
  exact⟨0,Nat.zero_le _,rfl,by rw[e];exact SetAt.new (by simp) (zbs _).symm (zbs _).symm (zbs _).symm (zbs _).symm,(Below.refl _ _).alloc (by simp) _,by simp⟩
 case round=>
  obtain⟨k,hk,rfl,hs,hb,hz⟩:=hrel;by_cases hlt:k<l.length
  ·obtain⟨x,hx⟩:∃x,l[k]?=some x:=⟨l[k],by simp[hlt]⟩
   obtain⟨hx0,hx1⟩:=HL.out x (List.mem_of_getElem? hx);obtain⟨n,rfl⟩:=Int.eq_ofNat_of_zero_le hx0;obtain⟨b,off,rfl,hcell⟩:=HC.out.resolve_left (by intro h;rw[List.map_eq_nil_iff] at h;rw[h] at hlt;simp at hlt);have hc0:=hcell k (.int .u8 n) (by rw[List.getElem?_map,hx];rfl);have hblk:=block_lt_of_cell hc0;have hc1:wr.cell? ⟨b,off+k,none⟩=some (.int .u8 n):=by
    rw[(bcell hb).1 b _ (by simpa using Nat.lt_succ_of_lt hblk),World.cell?_alloc_lt (h:=hblk)];exact hc0
   have hc:=(hs (n/64) (by omega)).1;have hf:=(hs (n/64) (by omega)).2;have ht:=Lib.hid (zap l k _ hx);clear hc0 hcell hx;go_wp2;go_roundw
   case rel=>
    have hs':=hs.put (zqn _ n);exact⟨k+1,by omega,by go_num,by rw[ht.out,zus];exact hs',hb.setCell (Nat.le_refl _) _,by simpa using hz⟩
   case measure=>simp[intOf];omega
  ·have e:l.take k=l:=List.take_of_length_le (by omega)
   rw[e] at hs;obtain⟨⟨c0,c1,c2,c3⟩,-⟩:=hs.four;obtain⟨d0,d1,d2,d3⟩:=zup hb (by omega);obtain⟨-,hfz⟩:=bcell hb;clear e HC HL;go_wp2;refine bodyPost_ret (v:=.agg #[.int .u64 (setW (lset l) 0),.int .u64 (setW (lset l) 1),.int .u64 (setW (lset l) 2),.int .u64 (setW (lset l) 3)]) (by simp[results,Tryz.results202,go_sem,d0,d1,d2,d3]) rfl ⟨rfl,?_⟩;exact((((((Below.refl _ w).alloc (Nat.le_refl _) _).trans (hb.mono (by omega))).setCell (Nat.le_refl _) _).setCell (Nat.le_refl _) _).setCell (Nat.le_refl _) _).setCell (Nat.le_refl _) _
end
section
open Go.RowKit
def WAt (g:Nat->Int)(B:Nat)(w:World):Prop:=∀j,j<4->w.cell? ⟨B,j,none⟩=some (.int .u64 (g j))/\w.frozen? ⟨B,j,none⟩=false
theorem WAt.put {g:Nat->Int}{B k:Nat}{w:World}{v:Int}(h:WAt g B w):WAt (fun j=>if j=k then v else g j) B (w.setCell ⟨B,k,none⟩ (.int .u64 v)):=fun j hj=>by
 refine⟨?_,by rw[World.frozen?_setCell];exact(h j hj).2⟩;by_cases e:j=k
 ·subst e;simp only[if_true];exact World.cell?_setCell_same' _ _ _ (by rw[(h _ hj).1];rfl)
 ·simp only[e,if_false];rw[World.cell?_setCell_other (h:=by intro hh;injection hh with _ h2;exact e h2.symm),(h j hj).1]
theorem WAt.congr {g g':Nat->Int}{B:Nat}{w:World}(h:WAt g B w)(e:∀j,j<4->g j=g' j):WAt g' B w:=fun j hj=>by
 rw[<-e j hj];exact h j hj
def part (f:Nat->Bool)(i m:Nat):Nat->Int:=fun j=>if j<i then setW f j else if j=i then setW f i/2 ^ m else 0
end
section
open Go.RowKit
def BAt (f:Nat->Bool)(B:Nat)(w:World):Prop:=∀j,j<256->w.cell? ⟨B,j,none⟩=some (.bool (f j))/\w.frozen? ⟨B,j,none⟩=false
theorem BAt.put {f:Nat->Bool}{B k:Nat}{w:World}(h:BAt f B w):BAt (ins f k) B (w.setCell ⟨B,k,none⟩ (.bool true)):=fun j hj=>by
 refine⟨?_,by rw[World.frozen?_setCell];exact(h j hj).2⟩;unfold ins;by_cases e:j=k
 ·subst e;rw[World.cell?_setCell_same' _ _ _ (by rw[(h _ hj).1];rfl)];simp
 ·rw[World.cell?_setCell_other (h:=by intro hh;injection hh with _ h2;exact e h2.symm),(h j hj).1]
  have:(j == k)=false:=by rw[beq_eq_false_iff_ne];exact e
  rw[this];simp
def Four (B:Nat)(w:World)(x y z u:Value):Prop:=
 (w.cell? ⟨B,0,none⟩=some x/\w.cell? ⟨B,1,none⟩=some y/\w.cell? ⟨B,2,none⟩=some z/\w.cell? ⟨B,3,none⟩=some u)/\∀o,w.frozen? ⟨B,o,none⟩=false
theorem Four.new (w:World)(x y z u:Value)(t:TypeId):Four w.heap.size (w.alloc (.cells #[x,y,z,u] t)) x y z u:=by
 unfold Four;refine⟨⟨?_,?_,?_,?_⟩,fun o=>?_⟩<;>simp
theorem Four.below {B n:Nat}{w w':World}{x y z u:Value}(h:Four B w x y z u)(hb:Below n w w')(hB:B<n):Four B w' x y z u:=by
 obtain⟨⟨h0,h1,h2,h3⟩,hf⟩:=h;exact⟨⟨(hb.cell (p:=⟨B,0,none⟩) hB).trans h0,(hb.cell (p:=⟨B,1,none⟩) hB).trans h1,(hb.cell (p:=⟨B,2,none⟩) hB).trans h2,(hb.cell (p:=⟨B,3,none⟩) hB).trans h3⟩,fun o=>(hb.frozen (p:=⟨B,o,none⟩) hB).trans (hf o)⟩
theorem Tryz.infoBool:(Tryz.prog.info? 4).map (fun i=>(i.zero,i.size,i.bytes))=some (some (.bool false),1,1):=by kernel_rfl
end
end Go.Proofs.YthhppmehhdlmnaaGreatDoor
