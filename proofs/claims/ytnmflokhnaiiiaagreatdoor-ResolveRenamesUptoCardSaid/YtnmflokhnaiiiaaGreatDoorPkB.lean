/- Small lemmas that the texts of several stages use: old memory over new, rows of values, numbers and strings in a walk. Sets of bytes: the arithmetic, the walks  -/
import Derived.Test.YtnmflokhnaiiiaaGreatDoorProg
import Derived.WalkKit
import Derived.ProofKit
import Derived.Outline
import Derived.Handy
import Derived.Below
import Derived.OwnWalk
import Derived.Lib.Hide
import Derived.Lib.BufferRead
import Derived.Deep.QuietTactic
import Derived.Laws.BitsAllLaws
import Derived.RegionTactic
import Derived.ChangeAlike
import Derived.Laws.AppendOwn
import Derived.Maps.AppendAt
import Derived.Test.YtnmflokhnaiiiaaGreatDoorPkA
set_option maxRecDepth 100000
set_option maxHeartbeats 800000
namespace Go.Proofs.YtnmflokhnaiiiaaGreatDoor
open Go.RowKit
theorem bcell {n:Nat}{W w1:World}(hb:Below n W w1):(∀b o,b<n->w1.cell? ⟨b,o,none⟩=W.cell? ⟨b,o,none⟩)/\(∀b o,b<n->w1.frozen? ⟨b,o,none⟩=W.frozen? ⟨b,o,none⟩):=
 ⟨fun b o h=>hb.cell (p:=⟨b,o,none⟩) h,fun b o h=>hb.frozen (p:=⟨b,o,none⟩) h⟩
theorem zap {a b:Bool}(h:a=b):Ending.returned (.bool a)=.returned (.bool b):=by rw[h]
theorem zfv {k:IntKind}{a b:Int}(h:a=b):Ending.returned (.int k a)=.returned (.int k b):=by rw[h]
theorem zai {w:World}{b o:Nat}{v:Value}(h:w.cell? ⟨b,o,none⟩=some v):b<w.heap.size:=by
 rcases Nat.lt_or_ge b w.heap.size with h'|h'
 ·exact h'
 ·simp[World.cell?,Array.getElem?_eq_none h'] at h
def RowAt (w:World)(v:Value)(cs:List Value):Prop:=∃a cap,v=.slice a cs.length cap/\(cs=[]∨∃b off,a=some ⟨b,off,none⟩/\∀i c,cs[i]?=some c->w.cell? ⟨b,off+i,none⟩=some c)
theorem RowAt.kept {n:Nat}{w w':World}{v:Value}{cs:List Value}(h:RowAt w v cs)(hb:Below n w w')(hn:w.heap.size<=n):RowAt w' v cs:=by
 obtain⟨a,cap,rfl,h⟩:=h;rcases h with h|⟨b,off,rfl,hc⟩
 ·exact⟨a,cap,rfl,.inl h⟩
 ·exact⟨_,cap,rfl,.inr ⟨b,off,rfl,fun i c hi=>by have:=zai (hc i c hi);rw[(bcell hb).1 _ _ (by omega)];exact hc i c hi⟩⟩
theorem RowAt.below {w w':World}{v:Value}{cs:List Value}(h:RowAt w v cs)(hb:Below w.heap.size w w'):RowAt w' v cs:=h.kept hb (Nat.le_refl _)
theorem RowAt.of_owns {w:World}{base:Nat}{t:TypeId}{v:Value}{n:Nat}{cs:List Value}(h:w.ownsRow base t 1 v n cs)(hn:cs.length=n):RowAt w v cs:=by
 subst hn;have h':=h;obtain⟨-,⟨rfl,h0⟩|⟨g,cap,cur,rfl,-⟩⟩:=h'
 ·exact⟨none,0,by rw[h0],.inl (List.length_eq_zero_iff.1 h0)⟩
 ·refine⟨_,cap,rfl,.inr ⟨g,0,rfl,fun i c hc=>?_⟩⟩
  have:=h.cells rfl i c hc;rw[Addr.add_lit] at this;exact this
theorem za3 {α:Type}(l:List α)(k:Nat)(x:α)(h:l[k]?=some x):l.take (k+1)=l.take k++[x]:=by
 obtain⟨h1,h2⟩:=List.getElem?_eq_some_iff.1 h;rw[List.take_succ_eq_append_getElem h1,h2]
theorem zum:(Tryz.prog.info? 5).map (fun i=>(i.zero,i.size,i.bytes))=some (some (.int .u8 0),1,1):=by kernel_rfl
theorem zhy {w w':World}(h:Below w.heap.size w w'):w.grownBy w' none:=⟨h.os,h.tape,h.output,h.size,fun k hk _=>h.block k hk⟩
def u8s (l:List Nat):List Value:=l.map fun k:Nat=>Value.int .u8 (k:Int)
theorem zqx (l:List Nat)(k:Nat):u8s (l++[k])=u8s l++[.int .u8 (k:Int)]:=by unfold u8s;rw[List.map_append];rfl
theorem zab {W w1:World}{base:Nat}{e:TypeId}{size:Nat}{v:Value}{k:Nat}{xs:List Value}(h:W.ownsRow base e size v k xs)(hb:Below W.heap.size W w1):w1.ownsRow base e size v k xs:=by
 refine h.kept (zhy hb) ?_;cases hv:v.ownBlock with
 |none=>exact .inl rfl
 |some b=>exact .inr (by simp)
theorem zak {B m:Nat}{a w:World}(h:Below B a w):Below B a (w.drewN m):=⟨h.os,h.tape,h.output,h.size,h.block⟩
theorem zat (w:World)(x:Value)(t:TypeId):∀j u,[x][j]?=some u->(w.alloc (.cells #[x] t)).cell? ((⟨w.heap.size,0,none⟩:Addr).add j)=some u:=by
 intro j u hj
 match j,hj with
 |0,hj=>simp at hj;subst hj;simp[Addr.add]
theorem zg6 (l:List Nat):(u8s l).length=l.length:=by unfold u8s;rw[List.length_map]
theorem zav {d:Nat}{k:Int}(h:(d:Int)≠k):((d:Int) == k)=false:=by rw[beq_eq_false_iff_ne];exact h
theorem zke {s:ByteArray}(h:0<s.size):s.toList.isEmpty=false:=by
 rw[ByteArray.toList_eq];cases hl:s.data.toList with
 |nil=>have:=congrArg List.length hl;rw[Array.length_toList] at this;exact absurd this (by show ¬s.size=0;omega)
 |cons _ _=>rfl
theorem ziv {s:ByteArray}(h:¬0<s.size):s.toList.isEmpty=true:=by
 rw[ByteArray.toList_eq];cases hl:s.data.toList with
 |nil=>rfl
 |cons a l=>have:=congrArg List.length hl;rw[Array.length_toList,List.length_cons] at this;exact absurd this (by show ¬s.size=_;omega)
theorem zae {c k:Int}(h:c≠k):(c == k)=false:=by rw[beq_eq_false_iff_ne];exact h
theorem zah {c k:Int}(h:c≠k):(c != k)=true:=by rw[bne_iff_ne];exact h
theorem zqy {w:World}{v:Value}{l:List Nat}(h:RowAt w v (u8s l))(hl:∀x,x ∈ l->x<256):(convert 147 9 v).run Tryz.prog w=.ok (.string (strOf l)) w:=by
 obtain⟨a,cap,rfl,h⟩:=h;rcases h with h0|⟨b,off,rfl,hc⟩
 ·have:l=[]:=List.map_eq_nil_iff.1 h0
  subst this;cases a with
  |none=>exact Lib.run_convert_nil_bytes w _ _ _ cap Tryz.underlying147 Tryz.underlying5 Tryz.underlying9
  |some a=>exact run_convert_bytes_back w _ _ _ a cap [] Tryz.underlying147 Tryz.underlying5 Tryz.underlying9 (fun j hj=>absurd hj (by simp))
 ·have hlen:(u8s l).length=(l.map UInt8.ofNat).length:=by rw[zg6,List.length_map]
  rw[hlen];refine run_convert_bytes_back w _ _ _ ⟨b,off,none⟩ cap (l.map UInt8.ofNat) Tryz.underlying147 Tryz.underlying5 Tryz.underlying9 (fun j hj=>?_);rw[Addr.add_lit];have hj':j<l.length:=by simpa using hj
  have:=hc j (.int .u8 ((l[j]:Nat):Int)) (by unfold u8s;rw[List.getElem?_map,List.getElem?_eq_getElem hj'];rfl);rw[this];congr 2;rw[List.getElem_map];have:=hl _ (List.getElem_mem hj');simp;omega
end Go.Proofs.YtnmflokhnaiiiaaGreatDoor
namespace Go.Proofs.YtnmflokhnaiiiaaGreatDoor
section
def zgc (f:Nat->Bool):Nat->Nat
 |0=>0
 |n+1=>zgc f n+(f n).toNat*2 ^ n
theorem zmy (f:Nat->Bool)(n:Nat):zgc f n<2 ^ n:=by
 induction n with
 |zero=>simp[zgc]
 |succ n ih=>
  unfold zgc;have:(f n).toNat<=1:=Bool.toNat_le _;have h2:(f n).toNat*2 ^ n<=1*2 ^ n:=Nat.mul_le_mul_right _ this;rw[Nat.pow_succ];omega
theorem zjw (f:Nat->Bool)(n k:Nat):(zgc f n).testBit k=(decide (k<n)&&f k):=by
 induction n with
 |zero=>simp[zgc]
 |succ n ih=>
  have hl:=zmy f n;unfold zgc;rw[Nat.add_comm,Nat.mul_comm,Nat.testBit_two_pow_mul_add _ hl];by_cases hk:k<n
  ·simp[hk,ih,show k<n+1 from by omega]
  ·simp only[hk,if_false]
   by_cases he:k=n
   ·subst he;cases f k<;>simp
   ·have:k-n≠0:=by omega
    have h1:¬k<n+1:=by omega
    simp only[h1,decide_false,Bool.false_and];cases f n
    ·simp
    ·obtain⟨m,hm⟩:∃m,k-n=m+1:=⟨k-n-1,by omega⟩
     rw[hm];simp[Nat.testBit_succ]
def setW (f:Nat->Bool)(k:Nat):Int:=((zgc (fun j=>f (64*k+j)) 64:Nat):Int)
theorem zem (f:Nat->Bool)(k:Nat):0<=setW f k:=by unfold setW;omega
theorem zfw (f:Nat->Bool)(k:Nat):setW f k<=18446744073709551615:=by
 have:=zmy (fun j=>f (64*k+j)) 64;unfold setW;omega
theorem zfi (f:Nat->Bool)(k j:Nat)(hj:j<64):(setW f k).toNat.testBit j=f (64*k+j):=by
 unfold setW;rw[Int.toNat_natCast,zjw];simp[hj]
theorem zy7 {a b:Int}(ha:0<=a)(ha':a<=18446744073709551615)(hb:0<=b)(hb':b<=18446744073709551615)(h:∀j,j<64->a.toNat.testBit j=b.toNat.testBit j):a=b:=by
 have:a.toNat=b.toNat:=by
  apply Nat.eq_of_testBit_eq;intro i;by_cases hi:i<64
  ·exact h i hi
  ·have h64:(2:Nat) ^ 64<=2 ^ i:=Nat.pow_le_pow_right (by omega) (by omega)
   rw[Nat.testBit_lt_two_pow (by omega),Nat.testBit_lt_two_pow (by omega)]
 omega
theorem zib {a:Int}{f:Nat->Bool}{k:Nat}(ha:0<=a)(ha':a<=18446744073709551615)(h:∀j,j<64->a.toNat.testBit j=f (64*k+j)):a=setW f k:=
 zy7 ha ha' (zem _ _) (zfw _ _) fun j hj=>by rw[h j hj,zfi _ _ _ hj]
theorem zde {f g:Nat->Bool}{k:Nat}(h:∀j,j<64->f (64*k+j)=g (64*k+j)):setW f k=setW g k:=
 zib (zem _ _) (zfw _ _) fun j hj=>by rw[zfi _ _ _ hj,h j hj]
theorem ziw {f g:Nat->Bool}{k:Nat}(hk:k<4)(h:∀i,i<256->f i=g i):setW f k=setW g k:=
 zde fun j hj=>h _ (by omega)
theorem zix (f g:Nat->Bool)(k:Nat):bits BinOp.or IntKind.u64 (setW f k) (setW g k)=setW (fun i=>f i || g i) k:=by
 have a1:=zem f k;have a2:=zfw f k;have b1:=zem g k;have b2:=zfw g k;rw[Go.u64_or _ _ a1 (by omega) b1 (by omega)];have hl:((setW f k).toNat ||| (setW g k).toNat)<2 ^ 64:=Nat.or_lt_two_pow (by omega) (by omega);refine zib (by omega) (by omega) fun j hj=>?_
 rw[Int.toNat_natCast,Nat.testBit_or,zfi _ _ _ hj,zfi _ _ _ hj]
theorem zic (f:Nat->Bool)(k:Nat):bits BinOp.xor IntKind.u64 IntKind.u64.max (setW f k)=setW (fun i=>!f i) k:=by
 have a1:=zem f k;have a2:=zfw f k;rw[show IntKind.u64.max=(18446744073709551615:Int) from rfl,Go.u64_xor _ _ (by omega) (by omega) a1 (by omega)];have hl:((18446744073709551615:Int).toNat ^^^ (setW f k).toNat)<2 ^ 64:=Nat.xor_lt_two_pow (by decide) (by omega);refine zib (by omega) (by omega) fun j hj=>?_
 rw[Int.toNat_natCast,Nat.testBit_xor,zfi _ _ _ hj];have:(18446744073709551615:Int).toNat=2 ^ 64-1:=by decide
 rw[this,Nat.testBit_two_pow_sub_one];simp[hj]
end
section
def p1 (m x:Nat):Nat:=((x/2) &&& m)+(x &&& m)
def p2 (m x:Nat):Nat:=((x/4) &&& m)+(x &&& m)
def p3 (m x:Nat):Nat:=(x/16+x) &&& m
theorem zo0 (n:Int)(h0:0<=n)(h1:n<18446744073709551616):IntKind.u64.wrap n=n:=by
 rw[IntKind.wrap_u64];omega
end
section
open Go.RowKit
theorem ix0 (x y z u:Value)(w:World):(Instr.index 71 (.agg #[x,y,z,u]) (.int .i64 0)).run Tryz.prog w=.ok x w:=by kernel_rfl
theorem ix1 (x y z u:Value)(w:World):(Instr.index 71 (.agg #[x,y,z,u]) (.int .i64 1)).run Tryz.prog w=.ok y w:=by kernel_rfl
theorem ix2 (x y z u:Value)(w:World):(Instr.index 71 (.agg #[x,y,z,u]) (.int .i64 2)).run Tryz.prog w=.ok z w:=by kernel_rfl
theorem ix3 (x y z u:Value)(w:World):(Instr.index 71 (.agg #[x,y,z,u]) (.int .i64 3)).run Tryz.prog w=.ok u w:=by kernel_rfl
theorem zqz {n:Nat}{w w1:World}{x y z u:Value}{t:TypeId}(hb:Below n (w.alloc (.cells #[x,y,z,u] t)) w1)(hn:w.heap.size<n) :
  w1.cell? ⟨w.heap.size,0,none⟩=some x/\w1.cell? ⟨w.heap.size,1,none⟩=some y/\w1.cell? ⟨w.heap.size,2,none⟩=some z/\w1.cell? ⟨w.heap.size,3,none⟩=some u:=by
 refine⟨?_,?_,?_,?_⟩
 ·rw[(bcell hb).1 _ _ hn];simp
 ·rw[(bcell hb).1 _ _ hn];simp
 ·rw[(bcell hb).1 _ _ hn];simp
 ·rw[(bcell hb).1 _ _ hn];simp
theorem zo1 {a b c d a' b' c' d':Int}(h0:a=a')(h1:b=b')(h2:c=c')(h3:d=d'):Ending.returned (.agg #[.int .u64 a,.int .u64 b,.int .u64 c,.int .u64 d])=.returned (.agg #[.int .u64 a',.int .u64 b',.int .u64 c',.int .u64 d']):=by rw[h0,h1,h2,h3]
theorem zun (f g:Nat->Bool)(w:World) :
  Calls Tryz.prog 127 #[.agg #[.int .u64 (setW f 0),.int .u64 (setW f 1),.int .u64 (setW f 2),.int .u64 (setW f 3)],.agg #[.int .u64 (setW g 0),.int .u64 (setW g 1),.int .u64 (setW g 2),.int .u64 (setW g 3)]] w
   fun e w'=>e=.returned (.agg #[.int .u64 (setW (fun i=>f i || g i) 0),.int .u64 (setW (fun i=>f i || g i) 1),.int .u64 (setW (fun i=>f i || g i) 2),.int .u64 (setW (fun i=>f i || g i) 3)])/\Below w.heap.size w w':=by
 have i0:=ix0;have i1:=ix1;have i2:=ix2;have i3:=ix3;go_enter Tryz.func127,Tryz.ntmps127;go_wp2
 go_rounds 5
 go_returns
 exact⟨zo1 (zix _ _ _) (zix _ _ _) (zix _ _ _) (zix _ _ _),by go_grown⟩
theorem z3n (f:Nat->Bool)(w:World) :
  Calls Tryz.prog 142 #[.agg #[.int .u64 (setW f 0),.int .u64 (setW f 1),.int .u64 (setW f 2),.int .u64 (setW f 3)]] w
   fun e w'=>e=.returned (.agg #[.int .u64 (setW (fun i=>!f i) 0),.int .u64 (setW (fun i=>!f i) 1),.int .u64 (setW (fun i=>!f i) 2),.int .u64 (setW (fun i=>!f i) 3)])/\Below w.heap.size w w':=by
 have i0:=ix0;have i1:=ix1;have i2:=ix2;have i3:=ix3;go_enter Tryz.func142,Tryz.ntmps142;go_wp2
 go_rounds 5
 go_returns
 exact⟨zo1 (zic _ _) (zic _ _) (zic _ _) (zic _ _),by go_grown⟩
theorem zcc (k:Nat):setW (fun _=>false) k=0:=by
 have:zgc (fun _=>false) 64=0:=by decide +kernel
 unfold setW;rw[this];rfl
theorem zy8 (w:World) :
  Calls Tryz.prog 140 #[] w
   fun e w'=>e=.returned (.agg #[.int .u64 (setW (fun _=>true) 0),.int .u64 (setW (fun _=>true) 1),.int .u64 (setW (fun _=>true) 2),.int .u64 (setW (fun _=>true) 3)])/\Below w.heap.size w w':=by
 have h:=z3n (fun _=>false);rw[zcc 0,zcc 1,zcc 2,zcc 3] at h;have H:=Lib.hid h;clear h;go_enter Tryz.func140,Tryz.ntmps140
 go_wp2_with (refine(H.out _).mono ?_;rintro e w1 ⟨rfl,hb⟩;obtain⟨hc,hf⟩:=bcell hb;obtain⟨c0,c1,c2,c3⟩:=zqz hb (by simp))
 refine bodyPost_ret (v:=.agg #[.int .u64 (setW (fun _=>true) 0),.int .u64 (setW (fun _=>true) 1),.int .u64 (setW (fun _=>true) 2),.int .u64 (setW (fun _=>true) 3)]) (by simp[results,Tryz.results140,go_sem,c0,c1,c2,c3]) rfl ⟨rfl,?_⟩;exact((((((Below.refl _ w).alloc (Nat.le_refl _) _).trans (hb.mono (by simp))).setCell (Nat.le_refl _) _).setCell (Nat.le_refl _) _).setCell (Nat.le_refl _) _).setCell (Nat.le_refl _) _
end
section
open Go.RowKit
def SetAt (f:Nat->Bool)(B:Nat)(w:World):Prop:=∀j,j<4->w.cell? ⟨B,j,none⟩=some (.int .u64 (setW f j))/\w.frozen? ⟨B,j,none⟩=false
theorem SetAt.drew {f:Nat->Bool}{B:Nat}{w:World}(h:SetAt f B w):SetAt f B w.drew:=fun j hj=>by simpa using h j hj
theorem SetAt.congr {f g:Nat->Bool}{B:Nat}{w:World}(h:SetAt f B w)(e:∀i,i<256->f i=g i):SetAt g B w:=fun j hj=>by
 rw[<-ziw hj e];exact h j hj
theorem SetAt.below {f:Nat->Bool}{B n:Nat}{w w':World}(h:SetAt f B w)(hb:Below n w w')(hB:B<n):SetAt f B w':=fun j hj=>
 ⟨(hb.cell (p:=⟨B,j,none⟩) hB).trans (h j hj).1,(hb.frozen (p:=⟨B,j,none⟩) hB).trans (h j hj).2⟩
theorem SetAt.four {f:Nat->Bool}{B:Nat}{w:World}(h:SetAt f B w) :
  (w.cell? ⟨B,0,none⟩=some (.int .u64 (setW f 0))/\w.cell? ⟨B,1,none⟩=some (.int .u64 (setW f 1))/\w.cell? ⟨B,2,none⟩=some (.int .u64 (setW f 2))/\w.cell? ⟨B,3,none⟩=some (.int .u64 (setW f 3)))
   /\ (w.frozen? ⟨B,0,none⟩=false/\w.frozen? ⟨B,1,none⟩=false/\w.frozen? ⟨B,2,none⟩=false/\w.frozen? ⟨B,3,none⟩=false):=
 ⟨⟨(h 0 (by omega)).1,(h 1 (by omega)).1,(h 2 (by omega)).1,(h 3 (by omega)).1⟩,⟨(h 0 (by omega)).2,(h 1 (by omega)).2,(h 2 (by omega)).2,(h 3 (by omega)).2⟩⟩
theorem SetAt.new {w:World}{t:TypeId}{f:Nat->Bool}{a b c d:Int}{B:Nat}(hB:B=w.heap.size)(h0:a=setW f 0)(h1:b=setW f 1)(h2:c=setW f 2)(h3:d=setW f 3) :
  SetAt f B (w.alloc (.cells #[.int .u64 a,.int .u64 b,.int .u64 c,.int .u64 d] t)):=fun j hj=>by
 subst hB h0 h1 h2 h3;have:j=0∨j=1∨j=2∨j=3:=by omega
 rcases this with rfl|rfl|rfl|rfl<;>simp
def ins (f:Nat->Bool)(k:Nat):Nat->Bool:=fun i=>f i || i == k
theorem zy9 (k:Nat):IntKind.u64.wrap (2 ^ (k%64))=setW (fun i=>i == k) (k/64):=by
 have hp:(2:Nat) ^ (k%64)<2 ^ 64:=Nat.pow_lt_pow_right (by omega) (by omega);have e:(2:Int) ^ (k%64)=((2 ^ (k%64):Nat):Int):=by rw[Int.natCast_pow];rfl
 generalize hq:(2:Nat) ^ (k%64)=q at hp e;rw[e,zo0 _ (by omega) (by omega)];refine zib (by omega) (by omega) fun j hj=>?_
 rw[Int.toNat_natCast,<-hq,Nat.testBit_two_pow];rw[Bool.eq_iff_iff];simp;omega
theorem zq0 (f:Nat->Bool)(k:Nat):bits BinOp.or IntKind.u64 (setW f (k/64)) (IntKind.u64.wrap (2 ^ (k%64)))=setW (ins f k) (k/64):=by
 rw[zy9,zix];rfl
theorem SetAt.put {f:Nat->Bool}{B k:Nat}{w:World}{v:Int}(h:SetAt f B w)(hv:v=setW (ins f k) (k/64)):SetAt (ins f k) B (w.setCell ⟨B,k/64,none⟩ (.int .u64 v)):=fun j hj=>by
 subst hv;refine⟨?_,by rw[World.frozen?_setCell];exact(h j hj).2⟩;by_cases e:j=k/64
 ·subst e;exact World.cell?_setCell_same' _ _ _ (by rw[(h _ hj).1];rfl)
 ·rw[World.cell?_setCell_other (h:=by intro hh;injection hh with _ h2;exact e h2.symm),(h j hj).1]
  congr 2;refine zde fun i hi=>?_
  have:(64*j+i == k)=false:=by rw[beq_eq_false_iff_ne];omega
  unfold ins;rw[this];simp
def inR (lo hi:Nat):Nat->Bool:=fun i=>decide (lo<=i)&&decide (i<hi)
theorem zid (lo k:Nat):setW (inR lo lo) k=0:=by
 have:inR lo lo=fun _=>false:=by funext i;unfold inR;simp
 rw[this,zcc]
theorem z3o (lo k i:Nat)(h:lo<=k):ins (inR lo k) k i=inR lo (k+1) i:=by
 unfold ins inR;rw[Bool.eq_iff_iff];simp;omega
theorem zuo (lo hi:Int)(w:World)(h0:0<=lo)(h1:lo<=255)(h2:0<=hi)(h3:hi<=255) :
  Calls Tryz.prog 128 #[.int .u8 lo,.int .u8 hi] w
   fun e w'=>e=.returned (.agg #[.int .u64 (setW (inR lo.toNat (hi.toNat+1)) 0),.int .u64 (setW (inR lo.toNat (hi.toNat+1)) 1),.int .u64 (setW (inR lo.toNat (hi.toNat+1)) 2),.int .u64 (setW (inR lo.toNat (hi.toNat+1)) 3)])/\Below w.heap.size w w':=by
 go_enter Tryz.func128,Tryz.ntmps128;go_wp2
 go_loopw [6] (fun c wr=>∃k:Nat,lo.toNat<=k/\(k<=lo.toNat∨k<=hi.toNat+1)/\c=.int .i64 k/\SetAt (inR lo.toNat k) (w.heap.size+1) wr/\Below (w.heap.size+1) (w.alloc (.cells #[.int .u64 0,.int .u64 0,.int .u64 0,.int .u64 0] 71)) wr/\w.heap.size+1<wr.heap.size) (fun c _=>(256-(intOf c).toNat))
 case atStart=>
  exact⟨lo.toNat,Nat.le_refl _,.inl (Nat.le_refl _),by congr 1;omega,SetAt.new (by simp) (zid _ _).symm (zid _ _).symm (zid _ _).symm (zid _ _).symm,(Below.refl _ _).alloc (by simp) _,by simp⟩
 case round=>
  obtain⟨k,hk1,hk2,rfl,hs,hb,hz⟩:=hrel;by_cases hlt:(k:Int)<=hi
  ·have hc:=(hs (k/64) (by omega)).1
   have hf:=(hs (k/64) (by omega)).2;go_wp2
   go_region
   go_wp2;go_roundw
   case rel=>exact⟨k+1,by omega,.inr (by omega),by go_num,((hs.put (zq0 _ _)).congr fun i _=>z3o _ _ _ hk1).drew,(hb.setCell (Nat.le_refl _) _).drew,by simpa using hz⟩
   case measure=>simp[intOf];omega
  ·have e:setW (inR lo.toNat k)=setW (inR lo.toNat (hi.toNat+1)):=by
    by_cases hle:k=hi.toNat+1
    ·rw[hle]
    ·have:inR lo.toNat k=inR lo.toNat (hi.toNat+1):=by
      funext i;unfold inR;rw[Bool.eq_iff_iff];simp;omega
     rw[this]
   have e0:=congrFun e 0;have e1:=congrFun e 1;have e2:=congrFun e 2;have e3:=congrFun e 3;have E0:=Lib.hid e0;have E1:=Lib.hid e1;have E2:=Lib.hid e2;have E3:=Lib.hid e3;clear e e0 e1 e2 e3;obtain⟨⟨c0,c1,c2,c3⟩,-⟩:=hs.four;obtain⟨d0,d1,d2,d3⟩:=zqz hb (by omega);obtain⟨-,hfz⟩:=bcell hb;go_wp2;refine bodyPost_ret (v:=.agg #[.int .u64 (setW (inR lo.toNat k) 0),.int .u64 (setW (inR lo.toNat k) 1),.int .u64 (setW (inR lo.toNat k) 2),.int .u64 (setW (inR lo.toNat k) 3)]) (by simp[results,Tryz.results128,go_sem,d0,d1,d2,d3]) rfl ⟨zo1 E0.out E1.out E2.out E3.out,?_⟩;exact((((((Below.refl _ w).alloc (Nat.le_refl _) _).trans (hb.mono (by omega))).setCell (Nat.le_refl _) _).setCell (Nat.le_refl _) _).setCell (Nat.le_refl _) _).setCell (Nat.le_refl _) _
end
section
open Go.RowKit
def lset (l:List Int):Nat->Bool:=fun i=>l.any fun x=>i == x.toNat
theorem zmz (l:List Int)(x:Int):lset (l++[x])=ins (lset l) x.toNat:=by
 funext i;unfold lset ins;rw[List.any_append];simp
theorem z59 (l:List Int)(v:Value)(w:World)(hv:RowAt w v (l.map (Value.int .u8)))(hl:∀x,x ∈ l->0<=x/\x<=255)(hn:l.length<=9223372036854775807) :
  Calls Tryz.prog 141 #[v] w
   fun e w'=>e=.returned (.agg #[.int .u64 (setW (lset l) 0),.int .u64 (setW (lset l) 1),.int .u64 (setW (lset l) 2),.int .u64 (setW (lset l) 3)])/\Below w.heap.size w w':=by
 obtain⟨a,cap,rfl,hcs⟩:=hv;rw[List.length_map];have HC:=Lib.hid hcs;have HL:=Lib.hid hl;clear hcs hl;go_enter Tryz.func141,Tryz.ntmps141;go_wp2
 go_loopw [8] (fun c wr=>∃k:Nat,k<=l.length/\c=.int .i64 k/\SetAt (lset (l.take k)) (w.heap.size+1) wr/\Below (w.heap.size+1) (w.alloc (.cells #[.int .u64 0,.int .u64 0,.int .u64 0,.int .u64 0] 71)) wr/\w.heap.size+1<wr.heap.size) (fun c _=>(l.length-(intOf c).toNat))
 case atStart=>
  have e:lset (l.take 0)=fun _=>false:=by funext i;simp[lset]
  exact⟨0,Nat.zero_le _,rfl,by rw[e];exact SetAt.new (by simp) (zcc _).symm (zcc _).symm (zcc _).symm (zcc _).symm,(Below.refl _ _).alloc (by simp) _,by simp⟩
 case round=>
  obtain⟨k,hk,rfl,hs,hb,hz⟩:=hrel;by_cases hlt:k<l.length
  ·obtain⟨x,hx⟩:∃x,l[k]?=some x:=⟨l[k],by simp[hlt]⟩
   obtain⟨hx0,hx1⟩:=HL.out x (List.mem_of_getElem? hx);obtain⟨n,rfl⟩:=Int.eq_ofNat_of_zero_le hx0;obtain⟨b,off,rfl,hcell⟩:=HC.out.resolve_left (by intro h;rw[List.map_eq_nil_iff] at h;rw[h] at hlt;simp at hlt);have hc0:=hcell k (.int .u8 n) (by rw[List.getElem?_map,hx];rfl);have hblk:=block_lt_of_cell hc0;have hc1:wr.cell? ⟨b,off+k,none⟩=some (.int .u8 n):=by
    rw[(bcell hb).1 b _ (by simpa using Nat.lt_succ_of_lt hblk),World.cell?_alloc_lt (h:=hblk)];exact hc0
   have hc:=(hs (n/64) (by omega)).1;have hf:=(hs (n/64) (by omega)).2;have ht:=Lib.hid (za3 l k _ hx);clear hc0 hcell hx;go_wp2;go_roundw
   case rel=>
    have hs':=hs.put (zq0 _ n);exact⟨k+1,by omega,by go_num,by rw[ht.out,zmz];exact hs',hb.setCell (Nat.le_refl _) _,by simpa using hz⟩
   case measure=>simp[intOf];omega
  ·have e:l.take k=l:=List.take_of_length_le (by omega)
   rw[e] at hs;obtain⟨⟨c0,c1,c2,c3⟩,-⟩:=hs.four;obtain⟨d0,d1,d2,d3⟩:=zqz hb (by omega);obtain⟨-,hfz⟩:=bcell hb;clear e HC HL;go_wp2;refine bodyPost_ret (v:=.agg #[.int .u64 (setW (lset l) 0),.int .u64 (setW (lset l) 1),.int .u64 (setW (lset l) 2),.int .u64 (setW (lset l) 3)]) (by simp[results,Tryz.results141,go_sem,d0,d1,d2,d3]) rfl ⟨rfl,?_⟩;exact((((((Below.refl _ w).alloc (Nat.le_refl _) _).trans (hb.mono (by omega))).setCell (Nat.le_refl _) _).setCell (Nat.le_refl _) _).setCell (Nat.le_refl _) _).setCell (Nat.le_refl _) _
theorem half (x:Int)(k:Nat):x/2 ^ (k+1)=x/2 ^ k/2:=by
 rw[Int.pow_succ,Int.ediv_ediv_of_nonneg (Int.pow_nonneg (by omega))]
end
section
open Go.RowKit
def WAt (g:Nat->Int)(B:Nat)(w:World):Prop:=∀j,j<4->w.cell? ⟨B,j,none⟩=some (.int .u64 (g j))/\w.frozen? ⟨B,j,none⟩=false
theorem WAt.put {g:Nat->Int}{B k:Nat}{w:World}{v:Int}(h:WAt g B w):WAt (fun j=>if j=k then v else g j) B (w.setCell ⟨B,k,none⟩ (.int .u64 v)):=fun j hj=>by
 refine⟨?_,by rw[World.frozen?_setCell];exact(h j hj).2⟩;by_cases e:j=k
 ·subst e;simp only[if_true];exact World.cell?_setCell_same' _ _ _ (by rw[(h _ hj).1];rfl)
 ·simp only[e,if_false];rw[World.cell?_setCell_other (h:=by intro hh;injection hh with _ h2;exact e h2.symm),(h j hj).1]
theorem WAt.congr {g g':Nat->Int}{B:Nat}{w:World}(h:WAt g B w)(e:∀j,j<4->g j=g' j):WAt g' B w:=fun j hj=>by
 rw[<-e j hj];exact h j hj
def part (f:Nat->Bool)(i m:Nat):Nat->Int:=fun j=>if j<i then setW f j else if j=i then setW f i/2 ^ m else 0
theorem zza (f:Nat->Bool)(i m:Nat)(hm:m<64):setW f i/2 ^ m=setW f i/2 ^ (m+1)*2+(f (64*i+m)).toNat:=by
 have hb:=zfi f i m hm;have hlo:=zem f i;obtain⟨n,hn⟩:=Int.eq_ofNat_of_zero_le hlo;rw[half,hn];rw[hn,Int.toNat_natCast,Nat.testBit,Nat.shiftRight_eq_div_pow,Nat.and_comm 1,Nat.and_one_is_mod] at hb;have e:((n:Int)/2 ^ m)=((n/2 ^ m:Nat):Int):=by
  rw[Int.natCast_ediv,Int.natCast_pow];rfl
 rw[e];generalize n/2 ^ m=q at *;rw[<-hb];rcases Nat.mod_two_eq_zero_or_one q with h|h<;>rw[h]<;>simp<;>omega
theorem zup (f:Nat->Bool)(i:Nat):setW f i/2 ^ 64=0:=by
 have:=zem f i;have:=zfw f i;omega
theorem zuq (f:Nat->Bool)(i:Nat)(j:Nat):part f i 0 j=part f (i+1) 64 j:=by
 unfold part;by_cases h1:j<i
 ·rw[if_pos h1,if_pos (by omega)]
 ·by_cases h2:j=i
  ·subst h2;simp
  ·rw[if_neg h1,if_neg h2,if_neg (by omega)]
   split
   ·exact(zup f _).symm
   ·rfl
theorem z3p (f:Nat->Bool)(b off cap:Nat)(w:World)(hb0:b<w.heap.size)(hc:∀j,j<256->w.cell? ⟨b,off+j,none⟩=some (.bool (f j))) :
  Calls Tryz.prog 100 #[.slice (some ⟨b,off,none⟩) 256 cap] w
   fun e w'=>e=.returned (.agg #[.int .u64 (setW f 0),.int .u64 (setW f 1),.int .u64 (setW f 2),.int .u64 (setW f 3)])/\Below w.heap.size w w':=by
 have HC:=Lib.hid hc;clear hc;go_enter Tryz.func100,Tryz.ntmps100;go_wp2
 go_loopw [4] (fun c wr=>∃i:Nat,i<=4/\c=.int .i64 i/\WAt (part f i 64) (w.heap.size+1) wr/\Below (w.heap.size+1) (w.alloc (.cells #[.int .u64 0,.int .u64 0,.int .u64 0,.int .u64 0] 71)) wr/\w.heap.size+1<wr.heap.size) (fun c _=>(4-(intOf c).toNat))
 case atStart=>
  refine⟨0,by omega,rfl,?_,(Below.refl _ _).alloc (by simp) _,by simp⟩;intro j hj;have e:part f 0 64 j=0:=by
   unfold part;rw[if_neg (by omega)];split
   ·exact zup f _
   ·rfl
  rw[e];have:j=0∨j=1∨j=2∨j=3:=by omega
  rcases this with rfl|rfl|rfl|rfl<;>simp
 case round=>
  obtain⟨i,hi,rfl,hs,hb,hz⟩:=hrel;by_cases hlt:i<4
  ·go_wp2
   obtain⟨wo,rfl⟩:∃wo:World,wo=wr:=⟨_,rfl⟩
   go_loopw [5] (fun c wr=>∃m:Nat,m<=64/\c=.int .i64 ((m:Int)-1)/\WAt (part f i m) (w.heap.size+1) wr/\Below (w.heap.size+1) (w.alloc (.cells #[.int .u64 0,.int .u64 0,.int .u64 0,.int .u64 0] 71)) wr/\w.heap.size+1<wr.heap.size) (fun c _=>(intOf c+1).toNat)
   case atStart=>exact⟨64,by omega,by simp,hs,hb,hz⟩
   case round=>
    obtain⟨m,hm,rfl,hs,hb,hz⟩:=hrel;by_cases h0:m=0
    ·subst h0
     go_wp2;exact⟨⟨i+1,by omega,by go_num,hs.congr fun j _=>zuq f i j,hb,hz⟩,by simp[intOf];omega⟩
    ·obtain⟨m,rfl⟩:∃n,m=n+1:=⟨m-1,by omega⟩
     have hc0:=(hs i hlt).1;have hf0:=(hs i hlt).2;have hst:=zza f i m (by omega);have hcell:wr.cell? ⟨b,off+(64*i+m),none⟩=some (.bool (f (64*i+m))):=by
      rw[(bcell hb).1 b _ (by omega),World.cell?_alloc_lt (h:=hb0)];exact HC.out _ (by omega)
     have hpx:part f i (m+1) i=setW f i/2 ^ (m+1):=by unfold part;simp
     have hx0:0<=setW f i/2 ^ (m+1):=Int.ediv_nonneg (zem _ _) (Int.pow_nonneg (by omega));have hx1:setW f i/2 ^ m<=18446744073709551615:=Int.le_trans (Int.ediv_le_self _ (zem _ _)) (zfw _ _);rw[hst] at hx1;have hnew:∀v,v=setW f i/2 ^ m->∀j,j<4->(if j=i then v else part f i (m+1) j)=part f i m j:=by
      intro v hv j _;subst hv;unfold part;by_cases e:j=i
      ·subst e;simp
      ·simp[e]
     have HN:=Lib.hid hnew;have HS:=Lib.hid hst;rw[hpx] at hc0;clear hnew hst hpx;generalize setW f i/2 ^ (m+1)=x at *;cases hbit:f (64*i+m)
     ·rw[hbit] at HS hx1 hcell
      have hx2:x*2<=18446744073709551615:=by simpa using hx1
      go_wp2;exact⟨⟨m,by omega,by go_num,hs.put.congr (HN.out _ (by rw[HS.out];simp)),hb.setCell (Nat.le_refl _) _,by simpa using hz⟩,by simp[intOf]⟩
     ·rw[hbit] at HS hx1 hcell
      have hx2:x*2+1<=18446744073709551615:=by simpa using hx1
      go_wp2;exact⟨⟨m,by omega,by go_num,(hs.put.put (k:=i)).congr (fun j hj=>by rw[<-HN.out (x*2+1) (by rw[HS.out];simp) j hj];split<;>rfl),(hb.setCell (Nat.le_refl _) _).setCell (Nat.le_refl _) _,by simpa using hz⟩,by simp[intOf]⟩
  ·obtain rfl:i=4:=by omega
   have hs4:SetAt f (w.heap.size+1) wr:=fun j hj=>by
    have:=hs j hj;unfold part at this;rw[if_pos hj] at this;exact this
   obtain⟨⟨c0,c1,c2,c3⟩,-⟩:=hs4.four;obtain⟨d0,d1,d2,d3⟩:=zqz hb (by omega);obtain⟨-,hfz⟩:=bcell hb;clear HC hs hs4;go_wp2;refine bodyPost_ret (v:=.agg #[.int .u64 (setW f 0),.int .u64 (setW f 1),.int .u64 (setW f 2),.int .u64 (setW f 3)]) (by simp[results,Tryz.results100,go_sem,d0,d1,d2,d3]) rfl ⟨rfl,?_⟩;exact((((((Below.refl _ w).alloc (Nat.le_refl _) _).trans (hb.mono (by omega))).setCell (Nat.le_refl _) _).setCell (Nat.le_refl _) _).setCell (Nat.le_refl _) _).setCell (Nat.le_refl _) _
theorem zo2 (f:Nat->Bool)(v:Value)(w:World)(hv:RowAt w v ((List.range 256).map fun i=>.bool (f i))) :
  Calls Tryz.prog 100 #[v] w
   fun e w'=>e=.returned (.agg #[.int .u64 (setW f 0),.int .u64 (setW f 1),.int .u64 (setW f 2),.int .u64 (setW f 3)])/\Below w.heap.size w w':=by
 obtain⟨a,cap,rfl,hcs⟩:=hv;obtain⟨b,off,rfl,hc⟩:=hcs.resolve_left (by simp);have hg:∀j,j<256->w.cell? ⟨b,off+j,none⟩=some (.bool (f j)):=fun j hj=>hc j _ (by rw[List.getElem?_map,List.getElem?_range hj];rfl)
 rw[List.length_map,List.length_range];exact z3p f b off cap w (block_lt_of_cell (hg 0 (by omega))) hg
end
section
open Go.RowKit
def BAt (f:Nat->Bool)(B:Nat)(w:World):Prop:=∀j,j<256->w.cell? ⟨B,j,none⟩=some (.bool (f j))/\w.frozen? ⟨B,j,none⟩=false
theorem BAt.put {f:Nat->Bool}{B k:Nat}{w:World}(h:BAt f B w):BAt (ins f k) B (w.setCell ⟨B,k,none⟩ (.bool true)):=fun j hj=>by
 refine⟨?_,by rw[World.frozen?_setCell];exact(h j hj).2⟩;unfold ins;by_cases e:j=k
 ·subst e;rw[World.cell?_setCell_same' _ _ _ (by rw[(h _ hj).1];rfl)];simp
 ·rw[World.cell?_setCell_other (h:=by intro hh;injection hh with _ h2;exact e h2.symm),(h j hj).1]
  have:(j == k)=false:=by rw[beq_eq_false_iff_ne];exact e
  rw[this];simp
def Four (B:Nat)(w:World)(x y z u:Value):Prop:=
 (w.cell? ⟨B,0,none⟩=some x/\w.cell? ⟨B,1,none⟩=some y/\w.cell? ⟨B,2,none⟩=some z/\w.cell? ⟨B,3,none⟩=some u)/\∀o,w.frozen? ⟨B,o,none⟩=false
theorem Four.new (w:World)(x y z u:Value)(t:TypeId):Four w.heap.size (w.alloc (.cells #[x,y,z,u] t)) x y z u:=by
 unfold Four;refine⟨⟨?_,?_,?_,?_⟩,fun o=>?_⟩<;>simp
theorem Four.below {B n:Nat}{w w':World}{x y z u:Value}(h:Four B w x y z u)(hb:Below n w w')(hB:B<n):Four B w' x y z u:=by
 obtain⟨⟨h0,h1,h2,h3⟩,hf⟩:=h;exact⟨⟨(hb.cell (p:=⟨B,0,none⟩) hB).trans h0,(hb.cell (p:=⟨B,1,none⟩) hB).trans h1,(hb.cell (p:=⟨B,2,none⟩) hB).trans h2,(hb.cell (p:=⟨B,3,none⟩) hB).trans h3⟩,fun o=>(hb.frozen (p:=⟨B,o,none⟩) hB).trans (hf o)⟩
def falses:Array Value:=Array.replicate 256 (.bool false)
theorem mk256 (w:World):(Instr.makeSlice 171 (.int .i64 256) (.int .i64 256)).run Tryz.prog w=.ok (.slice (some ⟨w.heap.size,0,none⟩) 256 256) (w.alloc (.cells falses 4)):=by kernel_rfl
theorem zur (l:List Int)(v:Value)(w:World)(hv:RowAt w v (l.map (Value.int .u8)))(hl:∀x,x ∈ l->0<=x/\x<=255)(hn:l.length<=9223372036854775807) :
  Calls Tryz.prog 104 #[v] w
   fun e w'=>e=.returned (.agg #[.int .u64 (setW (lset l) 0),.int .u64 (setW (lset l) 1),.int .u64 (setW (lset l) 2),.int .u64 (setW (lset l) 3)])/\Below w.heap.size w w':=by
 obtain⟨a,cap,rfl,hcs⟩:=hv;rw[List.length_map];have HC:=Lib.hid hcs;have HL:=Lib.hid hl;clear hcs hl;have hmk:=mk256;go_enter Tryz.func104,Tryz.ntmps104;go_wp2
 go_loopw [4] (fun c wr=>∃k:Nat,k<=l.length/\c=.int .i64 k/\BAt (lset (l.take k)) (w.heap.size+1) wr/\Below (w.heap.size+1) (w.alloc (.cells #[.int .u64 0,.int .u64 0,.int .u64 0,.int .u64 0] 71)) wr/\w.heap.size+1<wr.heap.size) (fun c _=>(l.length-(intOf c).toNat))
 case atStart=>
  have e:lset (l.take 0)=fun _=>false:=by funext i;simp[lset]
  refine⟨0,Nat.zero_le _,rfl,?_,(Below.refl _ _).alloc (by simp) _,by simp⟩;rw[e];intro j hj;have hf:falses[j]?=some (.bool false):=by unfold falses;simp[hj]
  rw[World.cell?_alloc_at _ _ _ _ (by simp),hf,World.frozen?_alloc_at _ _ _ _ (by simp)];exact⟨rfl,rfl⟩
 case round=>
  obtain⟨k,hk,rfl,hs,hb,hz⟩:=hrel;by_cases hlt:k<l.length
  ·obtain⟨x,hx⟩:∃x,l[k]?=some x:=⟨l[k],by simp[hlt]⟩
   obtain⟨hx0,hx1⟩:=HL.out x (List.mem_of_getElem? hx);obtain⟨n,rfl⟩:=Int.eq_ofNat_of_zero_le hx0;obtain⟨b,off,rfl,hcell⟩:=HC.out.resolve_left (by intro h;rw[List.map_eq_nil_iff] at h;rw[h] at hlt;simp at hlt);have hc0:=hcell k (.int .u8 n) (by rw[List.getElem?_map,hx];rfl);have hblk:=block_lt_of_cell hc0;have hc1:wr.cell? ⟨b,off+k,none⟩=some (.int .u8 n):=by
    rw[(bcell hb).1 b _ (by simpa using Nat.lt_succ_of_lt hblk),World.cell?_alloc_lt (h:=hblk)];exact hc0
   have hc:=(hs n (by omega)).1;have hf:=(hs n (by omega)).2;have ht:=Lib.hid (za3 l k _ hx);clear hc0 hcell hx;go_wp2;go_roundw
   case rel=>
    have hs':=hs.put (k:=n);exact⟨k+1,by omega,by go_num,by rw[ht.out,zmz];exact hs',hb.setCell (Nat.le_refl _) _,by simpa using hz⟩
   case measure=>simp[intOf];omega
  ·have e:l.take k=l:=List.take_of_length_le (by omega)
   rw[e] at hs;have h4:=(Four.new w (.int .u64 0) (.int .u64 0) (.int .u64 0) (.int .u64 0) 71).below hb (Nat.lt_succ_self _);have hr:RowAt wr (.slice (some ⟨w.heap.size+1,0,none⟩) 256 256) ((List.range 256).map fun i=>.bool (lset l i)):=
    ⟨_,256,by rw[List.length_map,List.length_range],.inr ⟨_,_,rfl,fun i c hc=>by
     rw[List.getElem?_map] at hc;by_cases hi:i<256
     ·rw[List.getElem?_range hi] at hc;cases hc;simpa using (hs i hi).1
     ·rw[List.getElem?_eq_none (by simp;omega)] at hc;cases hc⟩⟩
   have h:=Lib.hid (zo2 (lset l) _ wr hr);clear e HC HL hr hs
   go_wp2_with fail
   refine h.out.mono ?_;rintro e w1 ⟨rfl,hb1⟩;obtain⟨⟨d0,d1,d2,d3⟩,hfr⟩:=h4.below hb1 (by omega);clear h h4;go_wp2;refine bodyPost_ret (v:=.agg #[.int .u64 (setW (lset l) 0),.int .u64 (setW (lset l) 1),.int .u64 (setW (lset l) 2),.int .u64 (setW (lset l) 3)]) (by simp[results,Tryz.results104,go_sem,d0,d1,d2,d3]) rfl ⟨rfl,?_⟩;exact(((((((Below.refl _ w).alloc (Nat.le_refl _) _).trans (hb.mono (by omega))).trans (hb1.mono (by omega))).setCell (Nat.le_refl _) _).setCell (Nat.le_refl _) _).setCell (Nat.le_refl _) _).setCell (Nat.le_refl _) _
theorem Tryz.infoBool:(Tryz.prog.info? 4).map (fun i=>(i.zero,i.size,i.bytes))=some (some (.bool false),1,1):=by kernel_rfl
def bools (f:Nat->Bool)(k:Nat):List Value:=(List.range k).map fun i=>.bool (f i)
theorem zus (f:Nat->Bool)(k:Nat):(bools f k).length=k:=by unfold bools;simp
theorem zg7 (f:Nat->Bool)(k:Nat):bools f (k+1)=bools f k++[.bool (f k)]:=by
 unfold bools;rw[List.range_succ,List.map_append];rfl
def rin (lo hi:Int):Nat->Bool:=fun i=>decide (lo<=(i:Int))&&decide ((i:Int)<=hi)
theorem zm0 {lo hi:Int}{k:Nat}(h:¬(lo<=(k:Int)/\(k:Int)<=hi)):rin lo hi k=false:=by
 unfold rin;rw[Bool.and_eq_false_iff];simp;omega
theorem zq1 {lo hi:Int}{k:Nat}(h:lo<=(k:Int)/\(k:Int)<=hi):rin lo hi k=true:=by
 unfold rin;simp;omega
theorem zsl (lo hi:Int)(w:World) :
  Calls Tryz.prog 103 #[.int .i64 lo,.int .i64 hi] w
   fun e w'=>e=.returned (.agg #[.int .u64 (setW (rin lo hi) 0),.int .u64 (setW (rin lo hi) 1),.int .u64 (setW (rin lo hi) 2),.int .u64 (setW (rin lo hi) 3)])/\Below w.heap.size w w':=by
 obtain⟨i0,hi0,hz0,hz1,hz2⟩:=info_parts Tryz.infoBool;go_enter Tryz.func103,Tryz.ntmps103;go_wp2
 go_loopw [5,6] (fun v c wr=>∃k:Nat,k<=256/\c=.int .i64 k/\wr.ownsRow (w.heap.size+1) 4 1 v k (bools (rin lo hi) k)/\Below (w.heap.size+1) (w.alloc (.cells #[.int .u64 0,.int .u64 0,.int .u64 0,.int .u64 0] 71)) wr/\w.heap.size<wr.heap.size) (fun _ c _=>(256-(intOf c).toNat))
 case atStart=>
  exact⟨0,Nat.zero_le _,rfl,World.ownsRow_nil _ _ _ _,Below.refl _ _,by simp⟩
 case round=>
  obtain⟨k,hk,rfl,hs,hb,hz⟩:=hrel;by_cases hlt:k<256
  ·by_cases h1:lo<=(k:Int)
   ·by_cases h2:(k:Int)<=hi
    ·have hv:(Value.bool true)=.bool (rin lo hi k):=by rw[zq1 ⟨h1,h2⟩]
     have HV:=Lib.hid hv;clear hv
     go_wp2_with (at_builtin;refine wpList_append_own _ rfl _ _ 171 rfl (w.heap.size+1) 4 i0 (.bool false) 1 1 Tryz.underlying171 hi0 hz0 hz1 hz2 rfl (by decide) _ _ _ rfl (hs.alloc _) ⟨wr.heap.size,0,none⟩ 1 1 [.bool true] rfl rfl (zat _ _ _) (by simp[Value.oneCell']) (by unfold maxLen;omega) (by omega) (by simp;omega) ?_;intro v' w1 hown' hgrow _)
     have hv:=HV.out;have hsz:=hgrow.size;rw[World.size_alloc] at hsz;rw[hv,<-zg7] at hown';have hb':=(hb.alloc (by omega) (.cells #[_] 4)).grown hgrow (by simp;omega) (fun k e=>(hs.lt k e).1);exact⟨⟨k+1,by omega,by go_num,hown',hb',by omega⟩,by simp[intOf];omega⟩
    ·have hv:(Value.bool false)=.bool (rin lo hi k):=by rw[zm0 fun h=>h2 h.2]
     have HV:=Lib.hid hv;clear hv
     go_wp2_with (at_builtin;refine wpList_append_own _ rfl _ _ 171 rfl (w.heap.size+1) 4 i0 (.bool false) 1 1 Tryz.underlying171 hi0 hz0 hz1 hz2 rfl (by decide) _ _ _ rfl (hs.alloc _) ⟨wr.heap.size,0,none⟩ 1 1 [.bool false] rfl rfl (zat _ _ _) (by simp[Value.oneCell']) (by unfold maxLen;omega) (by omega) (by simp;omega) ?_;intro v' w1 hown' hgrow _)
     have hv:=HV.out;have hsz:=hgrow.size;rw[World.size_alloc] at hsz;rw[hv,<-zg7] at hown';have hb':=(hb.alloc (by omega) (.cells #[_] 4)).grown hgrow (by simp;omega) (fun k e=>(hs.lt k e).1);exact⟨⟨k+1,by omega,by go_num,hown',hb',by omega⟩,by simp[intOf];omega⟩
   ·have hv:(Value.bool false)=.bool (rin lo hi k):=by rw[zm0 fun h=>h1 h.1]
    have HV:=Lib.hid hv;clear hv
    go_wp2_with (at_builtin;refine wpList_append_own _ rfl _ _ 171 rfl (w.heap.size+1) 4 i0 (.bool false) 1 1 Tryz.underlying171 hi0 hz0 hz1 hz2 rfl (by decide) _ _ _ rfl (hs.alloc _) ⟨wr.heap.size,0,none⟩ 1 1 [.bool false] rfl rfl (zat _ _ _) (by simp[Value.oneCell']) (by unfold maxLen;omega) (by omega) (by simp;omega) ?_;intro v' w1 hown' hgrow _)
    have hv:=HV.out;have hsz:=hgrow.size;rw[World.size_alloc] at hsz;rw[hv,<-zg7] at hown';have hb':=(hb.alloc (by omega) (.cells #[_] 4)).grown hgrow (by simp;omega) (fun k e=>(hs.lt k e).1);exact⟨⟨k+1,by omega,by go_num,hown',hb',by omega⟩,by simp[intOf];omega⟩
  ·obtain rfl:k=256:=by omega
   have h4:=(Four.new w (.int .u64 0) (.int .u64 0) (.int .u64 0) (.int .u64 0) 71).below hb (Nat.lt_succ_self _);have hr:RowAt wr u5 (bools (rin lo hi) 256):=RowAt.of_owns hs (zus _ _);have h:=Lib.hid (zo2 (rin lo hi) _ wr hr);clear hr
   go_wp2_with fail
   refine h.out.mono ?_;rintro e w1 ⟨rfl,hb1⟩;obtain⟨⟨d0,d1,d2,d3⟩,hfr⟩:=h4.below hb1 (by omega);clear h h4 hs;go_wp2;refine bodyPost_ret (v:=.agg #[.int .u64 (setW (rin lo hi) 0),.int .u64 (setW (rin lo hi) 1),.int .u64 (setW (rin lo hi) 2),.int .u64 (setW (rin lo hi) 3)]) (by simp[results,Tryz.results103,go_sem,d0,d1,d2,d3]) rfl ⟨rfl,?_⟩;exact(((((((Below.refl _ w).alloc (Nat.le_refl _) _).trans (hb.mono (by omega))).trans (hb1.mono (by omega))).setCell (Nat.le_refl _) _).setCell (Nat.le_refl _) _).setCell (Nat.le_refl _) _).setCell (Nat.le_refl _) _
end
end Go.Proofs.YtnmflokhnaiiiaaGreatDoor
