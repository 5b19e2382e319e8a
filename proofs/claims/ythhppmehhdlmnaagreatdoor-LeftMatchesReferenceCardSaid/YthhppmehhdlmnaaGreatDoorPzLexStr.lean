/- The program's small functions: strings' HasPrefix, IndexAny, Clone by contracts; letter, digit, word, skip, Name; the table of signs and Kind. -/
import Derived.Shelf.Strings.IndexAnyAll
import Derived.Shelf.Strings.Prefix
import Derived.Laws.RangeAny
import Derived.Shelf.Small.Utf8
import Derived.Deep.LoopGhost
import Derived.Shelf.Strconv.Clone
import Derived.Lib.TrimU
import Derived.Lib.Strings
import Derived.Test.YthhppmehhdlmnaaGreatDoorPzA
import Derived.Test.YthhppmehhdlmnaaGreatDoorPzB
set_option maxRecDepth 100000
set_option maxHeartbeats 2000000
namespace Go.Proofs.YthhppmehhdlmnaaGreatDoor
section
open Go.RowKit Go.Shelf
def z7w:Ren:=⟨fun|119=>187|137=>186|152=>174|153=>167|217=>195|224=>188|225=>189|226=>175|227=>176|228=>177|266=>198|n=>n,fun|0=>0|3=>3|4=>4|5=>5|9=>9|21=>21|46=>149|116=>218|117=>219|124=>231|n=>n,fun|n=>n⟩
theorem zh1:Go.Proofs.Lays.n153 Tryz.prog z7w:={
 mixed:=by kernel_rfl
 f119:=Tryz.func187.trans (congrArg some (by kernel_rfl))
 f137:=Tryz.func186.trans (congrArg some (by kernel_rfl))
 f152:=Tryz.func174.trans (congrArg some (by kernel_rfl))
 f153:=Tryz.func167.trans (congrArg some (by kernel_rfl))
 f217:=Tryz.func195.trans (congrArg some (by kernel_rfl))
 f224:=Tryz.func188.trans (congrArg some (by kernel_rfl))
 f225:=Tryz.func189.trans (congrArg some (by kernel_rfl))
 f226:=Tryz.func175.trans (congrArg some (by kernel_rfl))
 f227:=Tryz.func176.trans (congrArg some (by kernel_rfl))
 f228:=Tryz.func177.trans (congrArg some (by kernel_rfl))
 f266:=Tryz.func198.trans (congrArg some (by kernel_rfl))
 t0:=Tryz.underlying0
 a0:=Tryz.isAgg0
 z0:=Tryz.sizeOf0
 v0:=Tryz.zeroValue0
 t3:=Tryz.underlying3
 a3:=Tryz.isAgg3
 z3:=Tryz.sizeOf3
 v3:=Tryz.zeroValue3
 t4:=Tryz.underlying4
 a4:=Tryz.isAgg4
 z4:=Tryz.sizeOf4
 v4:=Tryz.zeroValue4
 t5:=Tryz.underlying5
 a5:=Tryz.isAgg5
 z5:=Tryz.sizeOf5
 v5:=Tryz.zeroValue5
 t9:=Tryz.underlying9
 a9:=Tryz.isAgg9
 z9:=Tryz.sizeOf9
 v9:=Tryz.zeroValue9
 t21:=Tryz.underlying21
 a21:=Tryz.isAgg21
 z21:=Tryz.sizeOf21
 v21:=Tryz.zeroValue21
 t46:=Tryz.underlying149
 a46:=Tryz.isAgg149
 z46:=Tryz.sizeOf149
 v46:=Tryz.zeroValue149
 t116:=Tryz.underlying218
 a116:=Tryz.isAgg218
 z116:=Tryz.sizeOf218
 t117:=Tryz.underlying219
 a117:=Tryz.isAgg219
 z117:=Tryz.sizeOf219
 v117:=Tryz.zeroValue219
 t124:=Tryz.underlying231
 a124:=Tryz.isAgg231
 z124:=Tryz.sizeOf231
 v124:=Tryz.zeroValue231 }
def ren99:Ren:=⟨fun|99=>170|206=>182|n=>n,fun|3=>3|4=>4|9=>9|n=>n,fun|n=>n⟩
theorem z7x:Go.Proofs.Lays.n99 Tryz.prog ren99:={
 mixed:=by kernel_rfl
 f99:=Tryz.func170.trans (congrArg some (by kernel_rfl))
 f206:=Tryz.func182.trans (congrArg some (by kernel_rfl))
 t3:=Tryz.underlying3
 a3:=Tryz.isAgg3
 z3:=Tryz.sizeOf3
 v3:=Tryz.zeroValue3
 t4:=Tryz.underlying4
 a4:=Tryz.isAgg4
 z4:=Tryz.sizeOf4
 v4:=Tryz.zeroValue4
 t9:=Tryz.underlying9
 a9:=Tryz.isAgg9
 z9:=Tryz.sizeOf9
 v9:=Tryz.zeroValue9 }
theorem z3k:(Tryz.prog.info? 218).map (fun i=>(i.zero,i.size))=some (some (.agg (Array.replicate 256 (.bool false))),256):=by kernel_rfl
theorem zdw (s p:ByteArray)(w:World) :
  Calls Tryz.prog 170 #[.string s,.string p] w fun e w'=>e=.returned (.bool (Lib.hasPrefix s.data.toList p.data.toList))/\w'=w:=Any.strings_HasPrefix z7x s p w
theorem zkv (s:ByteArray)(c:Int)(w:World) :
  Calls Tryz.prog 186 #[.string s,.int .u8 c] w fun e w'=>e=.returned (.int .i64 (Lib.indexByte s.data.toList c.toNat.toUInt8))/\w'=w:=Any.strings_IndexByte { zh1 with } s c w
theorem zjb (s:ByteArray)(r:Int)(w:World)(h0:0<=r)(h1:r<128) :
  Calls Tryz.prog 174 #[.string s,.int .i32 r] w fun e w'=>e=.returned (.int .i64 (Lib.indexByte s.data.toList r.toNat.toUInt8))/\w'=w:=Any.strings_IndexRune_ascii { zh1 with } s r w h0 h1
theorem zso (n:Int)(w:World) :
  Calls Tryz.prog 175 #[.int .i64 n] w fun e w'=>e=.returned (.bool (decide (8<n)))/\w'=w:=Any.strings_shouldUseASCIISet { zh1 with } n w
def nl2:ByteArray:=⟨#[10,13]⟩
theorem zh2:∀l:List UInt8,Lib.indexAny l [10,13]=match comL (l.map UInt8.toNat) with|none=>-1|some m=>(m:Int)
 | []=>rfl
 |b::r=>by
  have ih:=zh2 r;rw[Lib.indexAny,List.map_cons];by_cases h:b.toNat=10∨b.toNat=13
  ·rw[zkn h,if_pos]
   ·rfl
   ·rcases h with h|h
    ·have:b=10:=UInt8.toNat_inj.1 h
     subst this;decide
    ·have:b=13:=UInt8.toNat_inj.1 h
     subst this;decide
  ·rw[zd8 h,if_neg]
   ·rw[ih]
    cases comL (r.map UInt8.toNat) with
    |none=>rfl
    |some m=>
     show(if ((m:Int) == -1)=true then (-1:Int) else m+1)=_;rw[if_neg (by rw[beq_iff_eq];omega)];rfl
   ·intro hc
    rw[List.contains_iff_mem] at hc;simp at hc;rcases hc with rfl|rfl
    ·exact h (Or.inl rfl)
    ·exact h (Or.inr rfl)
theorem zkw (s:ByteArray)(w:World)(h8:8<s.size)(hs:s.size<=2000000) :
  Calls Tryz.prog 167 #[.string s,.string nl2] w fun e w'=>e=.returned (.int .i64 (match comL (bts s) with|none=>-1|some m=>(m:Int)))/\Below w.heap.size w w':=by
 refine(Any.strings_IndexAny_long zh1 (zero_of_info z3k).1 (zero_of_info z3k).2 s nl2 w (by decide) h8 (by omega) (by decide) (fun j b hb=>?_)).mono fun e w' ⟨h1,h2⟩=>⟨?_,?_⟩
 ·match j,hb with
  |0,hb=>cases hb;decide
  |1,hb=>cases hb;decide
 ·rw[h1]
  show Ending.returned (.int .i64 (Lib.indexAny s.data.toList [10,13]))=_;rw[zh2];rfl
 ·rw[h2]
  exact((Below.refl _ _).alloc (Nat.le_refl _) _).alloc (by simp) _
theorem zdx (r:Int)(w:World) :
  Calls Tryz.prog 187 #[.int .i32 r] w fun e w'=>e=.returned (.bool (Lib.validRune r))/\w'=w:=Any.utf8_ValidRune { zh1 with } r w
theorem z4k (n:Nat)(h:n<256):(UInt8.ofNat n).toNat=n:=by simp;omega
theorem zzr (r:Int)(h0:128<=r)(h1:r<=1114111):2<=(Utf8.encode r).size/\(Utf8.encode r).size<=4/\((Utf8.encode r).size=2->∀h:1<(Utf8.encode r).size,128<=(Utf8.encode r)[1].toNat):=by
 have hc:∀c:Nat,c=(if Utf8.valid r then r.toNat else Utf8.runeError)->128<=c:=fun c h=>by
  rw[h];split
  ·omega
  ·decide
 unfold Utf8.encode;generalize hg:(if Utf8.valid r then r.toNat else Utf8.runeError)=c;have hc':=hc c hg.symm;dsimp only;rw[if_neg (by omega)];split
 ·refine⟨by show 2<=2;omega,by show 2<=4;omega,fun _ h=>?_⟩
  show 128<=(UInt8.ofNat (0x80+c%64)).toNat;rw[z4k _ (by omega)];omega
 ·split
  ·exact⟨by show 2<=3;omega,by show 3<=4;omega,fun h=>absurd h (by show ¬3=2;omega)⟩
  ·exact⟨by show 2<=4;omega,by show 4<=4;omega,fun h=>absurd h (by show ¬4=2;omega)⟩
theorem zzs (w:World) :
  Calls Tryz.prog 174 #[.string nl2,.int .i32 65533] w fun e w'=>e=.returned (.int .i64 (-1))/\Below w.heap.size w w':=by
 have n0:∀(w:World) ty,(Instr.next (.pointer (some ⟨w.heap.size,0,none⟩)) true ty).run Tryz.prog (w.iter ⟨#[10,13]⟩ 0)=.ok (.tuple #[.bool true,.int .i64 0,.int .i32 10]) (w.iter ⟨#[10,13]⟩ 1):=fun w ty=>run_next_ascii (P:=Tryz.prog) w ⟨#[10,13]⟩ 0 ty (by decide) (by decide)
 have n1:∀(w:World) ty,(Instr.next (.pointer (some ⟨w.heap.size,0,none⟩)) true ty).run Tryz.prog (w.iter ⟨#[10,13]⟩ 1)=.ok (.tuple #[.bool true,.int .i64 1,.int .i32 13]) (w.iter ⟨#[10,13]⟩ 2):=fun w ty=>run_next_ascii (P:=Tryz.prog) w ⟨#[10,13]⟩ 1 ty (by decide) (by decide)
 have n2:∀(w:World) ty,(Instr.next (.pointer (some ⟨w.heap.size,0,none⟩)) true ty).run Tryz.prog (w.iter ⟨#[10,13]⟩ 2)=.ok (.tuple #[.bool false]) (w.iter ⟨#[10,13]⟩ 2):=fun w ty=>run_next_end (P:=Tryz.prog) w ⟨#[10,13]⟩ 2 ty (by decide)
 unfold nl2;go_enter Tryz.func174,Tryz.ntmps174;go_wp2;refine wp_loop_rounds 3 ?_;rw[rounds_succ];go_wp2;rw[rounds_succ];go_wp2;rw[rounds_succ];go_wp2;go_ret;exact⟨rfl,(Below.refl _ _).alloc (Nat.le_refl _) _⟩
theorem zzt (r:Int)(w:World)(h0:128<=r)(he:r≠65533)(hv:Lib.validRune r=false) :
  Calls Tryz.prog 174 #[.string nl2,.int .i32 r] w fun e w'=>e=.returned (.int .i64 (-1))/\Below w.heap.size w w':=by
 have e1:=zaj he;have h0':¬r<128:=by omega
 have HV:=Lib.hid hv;unfold nl2;clear he hv;go_enter Tryz.func174,Tryz.ntmps174
 go_wp2_with (go_at_call 187;refine(zdx _ _).mono ?_;rintro e w' ⟨rfl,hw⟩;obtain rfl:=hw.symm;clear hw;rw[HV.out])
 go_ret;exact⟨rfl,Below.refl _ _⟩
theorem zut (r:Int)(w:World)(h0:128<=r)(h1:r<=1114111)(he:r≠65533)(hv:Lib.validRune r=true) :
  Calls Tryz.prog 174 #[.string nl2,.int .i32 r] w fun e w'=>e=.returned (.int .i64 (-1))/\Below w.heap.size w w':=by
 have e1:=zaj he;have h0':¬r<128:=by omega
 have HV:=Lib.hid hv;obtain⟨x1,x2,x3⟩:=zzr r h0 h1;have HX:=Lib.hid x3;unfold nl2;clear he hv x3;by_cases hz:(Utf8.encode r).size=2
 ·have z3:1<(Utf8.encode r).size:=by omega
  have hb:=HX.out hz z3;have z1:((Utf8.encode r).size:Int)-1=1:=by omega
  have z2:(1:Int)<((Utf8.encode r).size:Int):=by omega
  have ksl:∀w,(Instr.slice 9 (.string ⟨#[10,13]⟩) (some (.int .i64 2)) none none).run Tryz.prog w=.ok (.string ⟨#[]⟩) w:=fun w=>run_slice_string_l (P:=Tryz.prog) (w:=w) 9 ⟨#[10,13]⟩ Tryz.underlying9 .i64 2 (by decide) (by decide)
  have z4:((((⟨#[10,13]⟩:ByteArray)[1]'(by decide)).toNat:Int) != (((Utf8.encode r)[1]'z3).toNat:Int))=true:=by rw[bne_iff_ne,show(((⟨#[10,13]⟩:ByteArray)[1]'(by decide)).toNat:Int)=13 from rfl];omega
  clear hz HX;go_enter Tryz.func174,Tryz.ntmps174
  go_wp2_with (go_at_call 187;refine(zdx _ _).mono ?_;rintro e w' ⟨rfl,hw⟩;obtain rfl:=hw.symm;clear hw;rw[HV.out])
  go_step3
  go_wp2;refine wp_loop_rounds 1 ?_;rw[rounds_succ];go_wp2
  go_step3
  go_wp2;go_quiet (fail);go_wp2;obtain⟨W1,hW1⟩:∃W1,w.drewN nq=W1:=⟨_,rfl⟩;rw[hW1];have hB:Hid (Below w.heap.size w W1):=Lib.hid (by rw[<-hW1];exact zak (Below.refl _ _));clear hW1;have e11:IntKind.i64.wrap 2=2:=by decide
  go_quiet ((go_at_call 186;exact Calls.quiet_of_same (zkv _ _ _)));go_wp2;simp only[Exit.inBlock,Exit.then,Exit.noGoto_ret];go_ret;exact⟨rfl,zak hB.out⟩
 ·have z0:¬((Utf8.encode r).size:Int)-1<2:=by omega
  have z1:(2:Int)<=((Utf8.encode r).size:Int):=by omega
  clear hz HX;go_enter Tryz.func174,Tryz.ntmps174
  go_wp2_with (go_at_call 187;refine(zdx _ _).mono ?_;rintro e w' ⟨rfl,hw⟩;obtain rfl:=hw.symm;clear hw;rw[HV.out])
  go_step3
  go_wp2;refine wp_loop_rounds 1 ?_;rw[rounds_succ];go_wp2
  (try rw[Exit.noGoto_ret])
  go_ret;exact⟨rfl,Below.refl _ _⟩
theorem zuu (r:Int)(w:World)(h0:128<=r)(h1:r<=1114111) :
  Calls Tryz.prog 174 #[.string nl2,.int .i32 r] w fun e w'=>e=.returned (.int .i64 (-1))/\Below w.heap.size w w':=by
 by_cases he:r=65533
 ·subst he;exact zzs w
 ·cases hv:Lib.validRune r
  ·exact zzt r w h0 he hv
  ·exact zut r w h0 h1 he hv
end
section
open Go.RowKit Go.Shelf
theorem z7y (s:ByteArray)(i:Nat)(h:i<s.size):s.get! i=s[i]:=by
 simp[ByteArray.get!,getElem!_pos,h];rfl
theorem zoh (s:ByteArray)(pos:Nat)(h:pos<s.size)(ha:128<=s[pos].toNat):∀k,k<(Utf8.decode s pos).2->pos+k<s.size/\128<=(s.get! (pos+k)).toNat:=by
 have h0:128<=(s.get! (pos+0)).toNat:=by rw[get_at s pos h];exact ha
 have hn:¬(s.get! (pos+0)).toNat<128:=by omega
 have one:∀k,k<1->pos+k<s.size/\128<=(s.get! (pos+k)).toNat:=fun k hk=>by
  obtain rfl:k=0:=by omega
  exact⟨h,h0⟩
 simp only[Utf8.decode,hn,if_false]
 repeat' split
 all_goals intro k hk
 all_goals (simp only[Bool.and_eq_true,decide_eq_true_eq,beq_iff_eq] at *)
 all_goals first
  |exact one k hk
  |(rcases(by omega:k=0∨k=1∨k=2∨k=3) with rfl|rfl|rfl|rfl<;>first|exact⟨h,h0⟩|(constructor<;>omega)|omega)
theorem zml (s:ByteArray)(k:Nat):∀n,(∀j,j<n->k+j<s.size/\128<=(s.get! (k+j)).toNat)->comL ((bts s).drop k)=(comL ((bts s).drop (k+n))).map (· + n)
 |0,_=>by simp
 |n+1,h=>by
  rw[zml s k n (fun j hj=>h j (by omega))];obtain⟨h1,h2⟩:=h n (by omega);rw[z7y s _ h1] at h2;rw[zbd s (k+n) h1,zd8 (by omega),Option.map_map];refine congrArg (fun f=>Option.map f _) (funext fun x=>?_);show x+1+n=x+(n+1);omega
def zcw (w:World)(b:Nat)(s:ByteArray)(pos:Nat):World:={ w with heap:=w.heap.setIfInBounds b (.stringIter s pos) }
theorem zsp {w:World}{b:Nat}(s:ByteArray)(pos:Nat)(h:b<w.heap.size):(zcw w b s pos).heap[b]?=some (.stringIter s pos):=by
 unfold zcw;simp[h]
theorem zkx {n:Nat}{a w:World}{b:Nat}(hb:Below n a w)(hn:n<=b)(s:ByteArray)(pos:Nat):Below n a (zcw w b s pos):=
 hb.trans ⟨rfl,rfl,rfl,by unfold zcw;simp,fun k hk=>by unfold zcw;rw[Array.getElem?_setIfInBounds_ne (by omega)]⟩
theorem zoi (w:World)(b:Nat)(s:ByteArray)(pos:Nat)(ty:TypeId)(hb:w.heap[b]?=some (.stringIter s pos))(h:pos<s.size) :
  (Instr.next (.pointer (some ⟨b,0,none⟩)) true ty).run Tryz.prog w=.ok (.tuple #[.bool true,.int .i64 pos,.int .i32 (Utf8.decode s pos).1]) (zcw w b s (pos+(Utf8.decode s pos).2)):=by
 simp only[Instr.next,getObj,setObj,Sem.run_bind,Sem.run,hb,Result.andThen,h,if_true];simp[goInt,zcw]
theorem zky (w:World)(b:Nat)(s:ByteArray)(pos:Nat)(ty:TypeId)(hb:w.heap[b]?=some (.stringIter s pos))(h:¬pos<s.size) :
  (Instr.next (.pointer (some ⟨b,0,none⟩)) true ty).run Tryz.prog w=.ok (.tuple #[.bool false]) w:=by
 simp[Instr.next,getObj,Sem.run,hb,h]
def ComIs (o:Option Nat)(w:World)(e:Ending)(w':World):Prop:=e=.returned (.int .i64 (match o with|none=>-1|some m=>(m:Int)))/\Below w.heap.size w w'
theorem ComIs.no {o:Option Nat}{w w':World}(h:o=none)(hb:Below w.heap.size w w'):ComIs o w (.returned (.int .i64 (-1))) w':=by subst h;exact⟨rfl,hb⟩
theorem ComIs.yes {o:Option Nat}{w w':World}{m:Nat}(h:o=some m)(hb:Below w.heap.size w w'):ComIs o w (.returned (.int .i64 (m:Int))) w':=by subst h;exact⟨rfl,hb⟩
theorem z4l (x:UInt8)(h:x.toNat=10∨x.toNat=13):0<=Lib.indexByte nl2.data.toList x:=by
 rcases h with h|h
 ·have:x=10:=UInt8.toNat_inj.1 h
  subst this;decide
 ·have:x=13:=UInt8.toNat_inj.1 h
  subst this;decide
theorem zuv (x:UInt8)(h:¬(x.toNat=10∨x.toNat=13)):Lib.indexByte nl2.data.toList x=-1:=by
 have h1:((10:UInt8) == x)=false:=by rw[beq_eq_false_iff_ne];rintro rfl;exact h (Or.inl rfl)
 have h2:((13:UInt8) == x)=false:=by rw[beq_eq_false_iff_ne];rintro rfl;exact h (Or.inr rfl)
 show Lib.indexByte [10,13] x=-1;simp[Lib.indexByte,h1,h2]
theorem zi1 (s:ByteArray)(w:World)(h8:s.size<=8) :
  Calls Tryz.prog 167 #[.string s,.string nl2] w (ComIs (comL (bts s)) w):=by
 have h8z:decide ((8:Int)<(s.size:Int))=false:=decide_eq_false (by omega);have H8:=Lib.hid h8z;have hemp:nl2.toList.isEmpty=false:=by rw[ByteArray.toList_eq];rfl
 have hn1:((nl2.size:Int) == 1)=false:=by decide
 clear h8z;go_enter Tryz.func167,Tryz.ntmps167
 go_wp2_with (go_at_call 175;refine(zso _ _).mono ?_;rintro e w' ⟨rfl,hw⟩;obtain rfl:=hw.symm;clear hw;rw[H8.out])
 have hB0:w.heap.size<(w.iter s 0).heap.size:=by simp[World.iter]
 go_loopg [9,10] s.size (fun g _ _ wx=>∃k:Nat,k+g=s.size/\wx.heap[w.heap.size]?=some (.stringIter s k)/\w.heap.size<wx.heap.size/\Below w.heap.size w wx/\comL (bts s)=(comL ((bts s).drop k)).map (· + k))
 case atStart=>exact⟨0,by omega,World.iter_heap w s 0,hB0,(Below.refl _ _).alloc (Nat.le_refl _) _,by simp⟩
 case round=>
  obtain⟨k,hkg,hI,hBz,hb,hc⟩:=hrel;have HC:=Lib.hid hc;have HB:=Lib.hid hb;clear hc hb;by_cases hlt:k<s.size
  ·have hnx:=fun ty=>zoi wr w.heap.size s k ty hI hlt
   have hb2:=zkx (HB.out) (Nat.le_refl _) s (k+(Utf8.decode s k).2);have hi2:=zsp (w:=wr) s (k+(Utf8.decode s k).2) hBz;have hz2:w.heap.size<(zcw wr w.heap.size s (k+(Utf8.decode s k).2)).heap.size:=by unfold zcw;simpa using hBz
   clear hI;by_cases ha:s[k].toNat<128
   ·have hd:=decode_ascii s k hlt ha
    rw[hd] at hnx hb2 hi2 hz2;dsimp only at hnx hb2 hi2 hz2;generalize zcw wr w.heap.size s (k+1)=W2 at hnx hb2 hi2 hz2;have HN:=Lib.hid hb2;have HI2:=Lib.hid hi2;have hdr:=zbd s k hlt;have hback:((s[k].toNat:Int)).toNat.toUInt8=s[k]:=by simp
    have a0:(0:Int)<=(s[k].toNat:Int):=by omega
    have a1:(s[k].toNat:Int)<128:=by omega
    by_cases hnl:s[k].toNat=10∨s[k].toNat=13
    ·have hq:comL (bts s)=some k:=by rw[HC.out,hdr,zkn hnl];simp
     have hge:=z4l s[k] hnl;have hR:∀w,Calls Tryz.prog 174 #[.string nl2,.int .i32 (s[k].toNat:Int)] w fun e w'=>e=.returned (.int .i64 (Lib.indexByte nl2.data.toList s[k]))/\w'=w:=fun w=>by
      have h:=zjb nl2 (s[k].toNat:Int) w a0 a1;rw[hback] at h;exact h
     have HQ:=Lib.hid hq;have HR:=Lib.hid hR;clear hq hdr hnl hd hb2 hi2 hR hback
     go_wp2_with (go_at_call 174;(with_reducible refine(HR.out _).mono ?_);rintro e w' ⟨rfl,hw⟩;obtain rfl:=hw.symm;clear hw)
     go_ret;exact ComIs.yes HQ.out HN.out
    ·have hq:comL (bts s)=(comL ((bts s).drop (k+1))).map (· + (k+1)):=by
      rw[HC.out,hdr,zd8 hnl,Option.map_map];refine congrArg (fun f=>Option.map f _) (funext fun x=>?_);show x+1+k=x+(k+1);omega
     have hR:∀w,Calls Tryz.prog 174 #[.string nl2,.int .i32 (s[k].toNat:Int)] w fun e w'=>e=.returned (.int .i64 (-1))/\w'=w:=fun w=>by
      have h:=zjb nl2 (s[k].toNat:Int) w a0 a1;rw[hback,zuv _ hnl] at h;exact h
     have HQ:=Lib.hid hq;have HR:=Lib.hid hR;clear hq hdr hnl hd hb2 hi2 hR hback
     go_wp2_with (go_at_call 174;(with_reducible refine(HR.out _).mono ?_);rintro e w' ⟨rfl,hw⟩;obtain rfl:=hw.symm;clear hw)
     go_roundg (s.size-(k+1))
     case measure=>omega
     case rel=>exact⟨k+1,by omega,HI2.out,hz2,HN.out,HQ.out⟩
   ·obtain⟨g1,g2⟩:=decode_high s k hlt (by omega)
    have g3:(Utf8.decode s k).1<=1114111:=Lib.rune_le s k;have hsp:=zoh s k hlt (by omega);generalize Utf8.decode s k=d at hnx hb2 hi2 hz2 g1 g2 g3 hsp;obtain⟨r,n⟩:=d;dsimp only at hnx hb2 hi2 hz2 g1 g2 g3 hsp;generalize zcw wr w.heap.size s (k+n)=W2 at hnx hb2 hi2 hz2;have hq:comL (bts s)=(comL ((bts s).drop (k+n))).map (· + (k+n)):=by
     rw[HC.out,zml s k n hsp,Option.map_map];refine congrArg (fun f=>Option.map f _) (funext fun x=>?_);show x+n+k=x+(k+n);omega
    have hle:k+n<=s.size:=by have:=(hsp (n-1) (by omega)).1;omega
    have HN:=Lib.hid hb2;have HI2:=Lib.hid hi2;have HQ:=Lib.hid hq;clear hq hb2 hi2 hsp
    go_wp2_with (go_at_call 174;(with_reducible refine(zuu (r:Int) _ (by omega) (by omega)).mono ?_);rintro e w3 ⟨rfl,hb3⟩)
    have H3:=Lib.hid hb3;clear hb3
    go_roundg (s.size-(k+n))
    case measure=>omega
    case rel=>exact⟨k+n,by omega,by rw[H3.out.block _ hz2];exact HI2.out,Nat.lt_of_lt_of_le hz2 H3.out.size,HN.out.trans (H3.out.mono (by omega)),HQ.out⟩
  ·have hnx:=fun ty=>zky wr w.heap.size s k ty hI hlt
   have hq:comL (bts s)=none:=by rw[HC.out,List.drop_eq_nil_of_le (by rw[zag];omega)];rfl
   have HQ:=Lib.hid hq;clear hq;go_wp2;go_ret;exact ComIs.no HQ.out HB.out
theorem zg1 (s:ByteArray)(w:World)(hs:s.size<=2000000) :
  Calls Tryz.prog 167 #[.string s,.string nl2] w (ComIs (comL (bts s)) w):=by
 by_cases h8:s.size<=8
 ·exact zi1 s w h8
 ·exact zkw s w (by omega) hs
def z7z:Ren:=⟨fun|316=>124|n=>n,fun|0=>0|3=>3|4=>4|9=>9|37=>105|127=>152|5=>5|n=>n,fun|n=>n⟩
theorem z4m:Go.Proofs.LaysM.n316 Tryz.prog z7z:={
 mixed:=by kernel_rfl
 f316:=Tryz.func124.trans (congrArg some (by kernel_rfl))
 t0:=Tryz.underlying0
 a0:=Tryz.isAgg0
 z0:=Tryz.sizeOf0
 v0:=Tryz.zeroValue0
 t3:=Tryz.underlying3
 a3:=Tryz.isAgg3
 z3:=Tryz.sizeOf3
 v3:=Tryz.zeroValue3
 t4:=Tryz.underlying4
 a4:=Tryz.isAgg4
 z4:=Tryz.sizeOf4
 v4:=Tryz.zeroValue4
 t9:=Tryz.underlying9
 a9:=Tryz.isAgg9
 z9:=Tryz.sizeOf9
 v9:=Tryz.zeroValue9
 t37:=Tryz.underlying105
 a37:=Tryz.isAgg105
 z37:=Tryz.sizeOf105
 v37:=Tryz.zeroValue105
 t127:=Tryz.underlying152
 a127:=Tryz.isAgg152
 z127:=Tryz.sizeOf152
 v127:=Tryz.zeroValue152
 t5:=Tryz.underlying5
 a5:=Tryz.isAgg5
 z5:=Tryz.sizeOf5
 v5:=Tryz.zeroValue5
 i0:=by kernel_rfl
 i3:=by kernel_rfl
 i4:=by kernel_rfl
 i5:=by kernel_rfl
 i9:=by kernel_rfl
 i37:=by kernel_rfl
 i127:=by kernel_rfl }
theorem zoj (s:ByteArray)(w:World)(hs:s.size<=281474976710656) :
  Calls Tryz.prog 124 #[.string s] w fun e w'=>e=.returned (.string s)/\Below w.heap.size w w':=Any.stringslite_Clone z4m s w hs
theorem zed (s:ByteArray)(w:World)(hs:s.size<=2000000) :
  Calls Tryz.prog 85 #[.string s] w fun e w'=>e=.returned (.string s)/\Below w.heap.size w w':=by
 go_enter Tryz.func85,Tryz.ntmps85
 go_wp2_with (go_at_call 124;(with_reducible refine(zoj s _ (by omega)).mono ?_);rintro e w' ⟨rfl,hb⟩)
 go_ret;exact⟨rfl,hb⟩
end
section
open Go.RowKit
theorem zok (c:Nat)(w:World) :
  Calls Tryz.prog 164 #[.int .u8 (c:Int)] w fun e w'=>e=.returned (.bool (letB c true))/\w'=w:=by
 by_cases hd:48<=c/\c<=57
 ·have hr:=Lib.hid (show letB c true=false by unfold letB;rw[if_pos hd];rfl)
  have n1:¬(97:Int)<=(c:Int):=by omega
  have n2:¬(65:Int)<=(c:Int):=by omega
  have n3:=zaj (c:=(c:Int)) (k:=95) (by omega);clear hd;go_enter Tryz.func164,Tryz.ntmps164;go_wp2;go_ret;exact⟨zaf hr.out.symm,rfl⟩
 ·have hl:letB c true=decide (c=95∨(97<=c/\c<=122)∨(65<=c/\c<=90)):=by unfold letB;rw[if_neg hd]
  have HL:=Lib.hid hl;clear hl hd;by_cases h97:97<=c
  ·have m1:(97:Int)<=(c:Int):=by omega
   by_cases h122:c<=122
   ·have m2:(c:Int)<=122:=by omega
    have hr:=Lib.hid (HL.out.trans (decide_eq_true (by omega)):letB c true=true);go_enter Tryz.func164,Tryz.ntmps164;go_wp2;go_ret;exact⟨zaf hr.out.symm,rfl⟩
   ·have m2:¬(c:Int)<=122:=by omega
    have m3:(65:Int)<=(c:Int):=by omega
    have m4:¬(c:Int)<=90:=by omega
    have n3:=zaj (c:=(c:Int)) (k:=95) (by omega);have hr:=Lib.hid (HL.out.trans (decide_eq_false (by omega)):letB c true=false);go_enter Tryz.func164,Tryz.ntmps164;go_wp2;go_ret;exact⟨zaf hr.out.symm,rfl⟩
  ·have m1:¬(97:Int)<=(c:Int):=by omega
   by_cases h95:c=95
   ·subst h95
    have hr:=Lib.hid (HL.out.trans (by decide):letB 95 true=true);go_enter Tryz.func164,Tryz.ntmps164;go_wp2;go_ret;exact⟨zaf hr.out.symm,rfl⟩
   ·have n3:=zaj (c:=(c:Int)) (k:=95) (by omega)
    by_cases h65:65<=c
    ·have m3:(65:Int)<=(c:Int):=by omega
     by_cases h90:c<=90
     ·have m4:(c:Int)<=90:=by omega
      have hr:=Lib.hid (HL.out.trans (decide_eq_true (by omega)):letB c true=true);clear h95;go_enter Tryz.func164,Tryz.ntmps164;go_wp2;go_ret;exact⟨zaf hr.out.symm,rfl⟩
     ·have m4:¬(c:Int)<=90:=by omega
      have hr:=Lib.hid (HL.out.trans (decide_eq_false (by omega)):letB c true=false);clear h95;go_enter Tryz.func164,Tryz.ntmps164;go_wp2;go_ret;exact⟨zaf hr.out.symm,rfl⟩
    ·have m3:¬(65:Int)<=(c:Int):=by omega
     have hr:=Lib.hid (HL.out.trans (decide_eq_false (by omega)):letB c true=false);clear h95;go_enter Tryz.func164,Tryz.ntmps164;go_wp2;go_ret;exact⟨zaf hr.out.symm,rfl⟩
def digB (c:Nat):Bool:=decide (48<=c/\c<=57)
theorem zgg (c:Nat):letB c false=(letB c true || digB c):=by
 unfold letB digB;by_cases h:48<=c/\c<=57<;>simp[h]
theorem zsq (c:Nat)(w:World) :
  Calls Tryz.prog 165 #[.int .u8 (c:Int)] w fun e w'=>e=.returned (.bool (digB c))/\w'=w:=by
 by_cases h1:48<=c
 ·have m1:(48:Int)<=(c:Int):=by omega
  by_cases h2:c<=57
  ·have m2:(c:Int)<=57:=by omega
   have hr:=Lib.hid (show digB c=true from decide_eq_true ⟨h1,h2⟩);go_enter Tryz.func165,Tryz.ntmps165;go_wp2;go_ret;exact⟨zaf hr.out.symm,rfl⟩
  ·have m2:¬(c:Int)<=57:=by omega
   have hr:=Lib.hid (show digB c=false from decide_eq_false (by omega));go_enter Tryz.func165,Tryz.ntmps165;go_wp2;go_ret;exact⟨zaf hr.out.symm,rfl⟩
 ·have m1:¬(48:Int)<=(c:Int):=by omega
  have hr:=Lib.hid (show digB c=false from decide_eq_false (by omega));go_enter Tryz.func165,Tryz.ntmps165;go_wp2;go_ret;exact⟨zaf hr.out.symm,rfl⟩
theorem zes (c:Nat)(r:Bool)(w:World)(h:letB c true=r):Calls Tryz.prog 164 #[.int .u8 (c:Int)] w fun e w'=>e=.returned (.bool r)/\w'=w:=by subst h;exact zok c w
theorem zmm (c:Nat)(r:Bool)(w:World)(h:digB c=r):Calls Tryz.prog 165 #[.int .u8 (c:Int)] w fun e w'=>e=.returned (.bool r)/\w'=w:=by subst h;exact zsq c w
def WordAt (s:ByteArray)(p k:Nat):Prop:=p<=k/\k<=s.size/\idL true ((bts s).drop p)+p=k+idL (decide (k=p)) ((bts s).drop k)
theorem WordAt.start {s:ByteArray}{p:Nat}(hp:p<=s.size):WordAt s p p:=⟨Nat.le_refl _,hp,by rw[decide_eq_true rfl];omega⟩
theorem WordAt.step {s:ByteArray}{p k:Nat}(h:WordAt s p k)(hlt:k<s.size)(hl:letB s[k].toNat (decide (k=p))=true):WordAt s p (k+1):=by
 obtain⟨h1,h2,h3⟩:=h;rw[zbd s k hlt,zhu hl] at h3;exact⟨by omega,by omega,by rw[decide_eq_false (by omega)];omega⟩
theorem WordAt.stop {s:ByteArray}{p k:Nat}(h:WordAt s p k)(hlt:k<s.size)(hl:letB s[k].toNat (decide (k=p))=false):k=p+idL true ((bts s).drop p):=by
 obtain⟨h1,h2,h3⟩:=h;rw[zbd s k hlt,zqb hl] at h3;omega
theorem WordAt.fin {s:ByteArray}{p k:Nat}(h:WordAt s p k)(hlt:¬k<s.size):k=p+idL true ((bts s).drop p):=by
 obtain⟨h1,h2,h3⟩:=h;rw[List.drop_eq_nil_of_le (i:=k) (by rw[zag];omega)] at h3;have:idL (decide (k=p)) []=0:=rfl;omega
theorem zkz (s:ByteArray)(p:Nat)(w:World)(hs:s.size<=2000000)(hp:p<=s.size) :
  Calls Tryz.prog 152 #[.string s,.int .i64 (p:Int)] w fun e w'=>e=.returned (.int .i64 ((p+idL true ((bts s).drop p):Nat):Int))/\w'=w:=by
 go_enter Tryz.func152,Tryz.ntmps152;go_wp2
 go_loop [5] (fun c=>∃k:Nat,WordAt s p k/\c=.int .i64 k) (fun c=>s.size-(intOf c).toNat)
 case atStart=>exact⟨p,WordAt.start hp,rfl⟩
 case round=>
  obtain⟨k,hk,rfl⟩:=hrel;have hk1:=hk.1;have hk2:=hk.2.1;have HK:=Lib.hid hk;clear hk;by_cases hlt:k<s.size
  ·have hlt':(k:Int)<(s.size:Int):=by omega
   cases hl:letB s[k].toNat true
   ·by_cases hkp:k=p
    ·subst hkp
     have hq:=Lib.hid (HK.out.stop hlt (by rw[decide_eq_true rfl];exact hl));have HL:=Lib.hid hl;clear hl HK
     go_wp2_with (go_at_call 164;(with_reducible refine(zes _ false _ HL.out).mono ?_);rintro e w' ⟨rfl,hw⟩;obtain rfl:=hw.symm;clear hw)
     go_ret;exact⟨zdv (congrArg _ hq.out),rfl⟩
    ·have hpk:(p:Int)<(k:Int):=by omega
     cases hd:digB s[k].toNat
     ·have hq:=Lib.hid (HK.out.stop hlt (by rw[decide_eq_false hkp,zgg,hl,hd];rfl))
      have HL:=Lib.hid hl;have HD:=Lib.hid hd;clear hl hd HK hkp
      go_wp2_with (first
       |(go_at_call 164;(with_reducible refine(zes _ false _ HL.out).mono ?_);rintro e w' ⟨rfl,hw⟩;obtain rfl:=hw.symm;clear hw)
       |(go_at_call 165;(with_reducible refine(zmm _ false _ HD.out).mono ?_);rintro e w' ⟨rfl,hw⟩;obtain rfl:=hw.symm;clear hw))
      go_ret;exact⟨zdv (congrArg _ hq.out),rfl⟩
     ·have hq:=Lib.hid (HK.out.step hlt (by rw[decide_eq_false hkp,zgg,hl,hd];rfl))
      have HL:=Lib.hid hl;have HD:=Lib.hid hd;clear hl hd HK hkp
      go_wp2_with (first
       |(go_at_call 164;(with_reducible refine(zes _ false _ HL.out).mono ?_);rintro e w' ⟨rfl,hw⟩;obtain rfl:=hw.symm;clear hw)
       |(go_at_call 165;(with_reducible refine(zmm _ true _ HD.out).mono ?_);rintro e w' ⟨rfl,hw⟩;obtain rfl:=hw.symm;clear hw))
      go_round
      case rel=>exact⟨k+1,hq.out,by go_num⟩
      case measure=>simp[intOf];omega
   ·have hq:=Lib.hid (HK.out.step hlt (by
     cases decide (k=p)
     ·rw[zgg,hl];rfl
     ·exact hl))
    have HL:=Lib.hid hl;clear hl HK
    go_wp2_with (go_at_call 164;(with_reducible refine(zes _ true _ HL.out).mono ?_);rintro e w' ⟨rfl,hw⟩;obtain rfl:=hw.symm;clear hw)
    go_round
    case rel=>exact⟨k+1,hq.out,by go_num⟩
    case measure=>simp[intOf];omega
  ·have hlt':¬(k:Int)<(s.size:Int):=by omega
   have hq:=Lib.hid (HK.out.fin hlt);clear HK;go_wp2;go_ret;exact⟨zdv (congrArg _ hq.out),rfl⟩
def SkpIs (o:Nat)(p:Nat)(w:World)(e:Ending)(w':World):Prop:=e=.returned (.int .i64 ((p+o:Nat):Int))/\Below w.heap.size w w'
theorem SkpIs.mk {o p:Nat}{w w':World}{x:Int}(h1:x=((p+o:Nat):Int))(hb:Below w.heap.size w w'):SkpIs o p w (.returned (.int .i64 x)) w':=by
 subst h1;exact⟨rfl,hb⟩
theorem zk0 (s:ByteArray)(k:Nat):bts (s.extract k s.size)=(bts s).drop k:=by
 rw[zdt,List.take_of_length_le (by rw[List.length_drop,zag];omega)]
theorem zzu (s:ByteArray)(p:Nat)(w:World)(hs:s.size<=2000000)(hp:p<=s.size) :
  Calls Tryz.prog 159 #[.string s,.int .i64 (p:Int)] w (SkpIs (skipL ((bts s).drop p)).1 p w):=by
 obtain⟨o,hx⟩:∃o,(skipL ((bts s).drop p)).1=o:=⟨_,rfl⟩;rw[hx];have HX:=Lib.hid hx;clear hx;go_enter Tryz.func159,Tryz.ntmps159;go_wp2
 go_loopw [1,5] (fun c _ wx=>∃k:Nat,k<=s.size/\c=.int .i64 k/\k+(skipL ((bts s).drop k)).1=p+o/\Below w.heap.size w wx) (fun c _ _=>s.size-(intOf c).toNat)
 case atStart=>exact⟨p,hp,rfl,by rw[HX.out],Below.refl _ _⟩
 case round=>
  obtain⟨k,hk,rfl,h1,hb⟩:=hrel;have H1:=Lib.hid h1;have HB:=Lib.hid hb;clear h1 hb;by_cases hlt:k<s.size
  ·have hd:=zbd s k hlt
   by_cases hsp:s[k].toNat=32∨s[k].toNat=9∨s[k].toNat=10∨s[k].toNat=13
   ·have hq:=zal (r:=(bts s).drop (k+1)) hsp
    rw[<-hd] at hq;have HQ:Hid ((skipL ((bts s).drop k)).1=(skipL ((bts s).drop (k+1))).1+1):=Lib.hid (by rw[hq]);clear hd hq;rcases hsp with h|h|h|h
    all_goals
     go_wp2;go_roundw
     case rel=>exact⟨k+1,by omega,by go_num,by have:=H1.out;rw[HQ.out] at this;omega,HB.out⟩
     case measure=>simp[intOf];omega
   ·have e1:=za2 (d:=s[k].toNat) (k:=32) (by omega)
    have e2:=za2 (d:=s[k].toNat) (k:=9) (by omega);have e3:=za2 (d:=s[k].toNat) (k:=10) (by omega);have e4:=za2 (d:=s[k].toNat) (k:=13) (by omega);by_cases h35:s[k].toNat=35
    ·rw[h35] at hd
     have hcd:comL ((bts s).drop k)=(comL ((bts s).drop (k+1))).map (· + 1):=by rw[hd,zd8 (by decide)]
     have ksl:∀w,(Instr.slice 9 (.string s) (some (.int .i64 (k:Int))) none none).run Tryz.prog w=.ok (.string (s.extract k s.size)) w:=fun w=>run_slice_string_l (P:=Tryz.prog) (w:=w) 9 s Tryz.underlying9 .i64 (k:Int) (by omega) (by omega)
     have hbt:=zk0 s k;have hzt:(s.extract k s.size).size<=2000000:=by rw[ByteArray.size_extract];omega
     generalize s.extract k s.size=tl at ksl hbt hzt;cases hc:comL ((bts s).drop (k+1)) with
     |none=>
      have hR:∀w,Calls Tryz.prog 167 #[.string tl,.string nl2] w fun e w'=>e=.returned (.int .i64 (-1))/\Below w.heap.size w w':=fun w=>by
       have h:=zg1 tl w hzt;unfold ComIs at h;rw[hbt,hcd,hc] at h;exact h
      have hq:(k:Int)=((p+o:Nat):Int):=by
       have h2:=zhs hc;rw[<-hd] at h2;have h3:=H1.out;rw[h2] at h3;have h4:k+0=p+o:=h3;omega
      have HR:=Lib.hid hR;have HQ:=Lib.hid hq;unfold nl2 at HR;clear hR hq hd hcd hc hsp
      go_wp2_with (go_at_call 167;(with_reducible refine(HR.out _).mono ?_);rintro e w' ⟨rfl,hb2⟩)
      go_ret;exact SkpIs.mk HQ.out (HB.out.trans (hb2.mono HB.out.size))
     |some m=>
      have hR:∀w,Calls Tryz.prog 167 #[.string tl,.string nl2] w fun e w'=>e=.returned (.int .i64 ((m:Int)+1))/\Below w.heap.size w w':=fun w=>by
       have h:=zg1 tl w hzt;unfold ComIs at h;rw[hbt,hcd,hc] at h;exact h
      have hm:=zko _ _ hc;rw[List.length_drop,zag] at hm;have h2:=zht hc;rw[<-hd,List.drop_drop] at h2;have h3:(skipL ((bts s).drop k)).1=(skipL ((bts s).drop (k+1+m))).1+(m+1):=by rw[h2]
      have h4:k+(m+1)+(skipL ((bts s).drop (k+(m+1)))).1=p+o:=by
       have h5:=H1.out;rw[h3] at h5;rw[show k+(m+1)=k+1+m by omega];omega
      have HR:=Lib.hid hR;have HQ:=Lib.hid h4;have n0:¬(m:Int)+1<0:=by omega
      unfold nl2 at HR;clear hR h2 h3 h4 hd hcd hc hsp
      go_wp2_with (go_at_call 167;(with_reducible refine(HR.out _).mono ?_);rintro e w' ⟨rfl,hb2⟩)
      have HB2:=Lib.hid hb2;clear hb2;go_roundw
      case rel=>exact⟨k+(m+1),by omega,by go_num,HQ.out,HB.out.trans (HB2.out.mono HB.out.size)⟩
      case measure=>simp[intOf];omega
    ·have hq:=zam (r:=(bts s).drop (k+1)) hsp h35
     rw[<-hd] at hq;have hkn:(k:Int)=((p+o:Nat):Int):=by have:=H1.out;rw[hq] at this;have h4:k+0=p+o:=this;omega
     have e5:=za2 (d:=s[k].toNat) (k:=35) (by omega);have HK:=Lib.hid hkn;clear hd hq hsp hkn;go_wp2;go_ret;exact SkpIs.mk HK.out HB.out
  ·have hq:skipL ((bts s).drop k)=(0,true):=by rw[List.drop_eq_nil_of_le (by rw[zag];omega)];exact zd9
   have hkn:(k:Int)=((p+o:Nat):Int):=by have:=H1.out;rw[hq] at this;have h4:k+0=p+o:=this;omega
   have HK:=Lib.hid hkn;clear hq hkn;go_wp2;go_ret;exact SkpIs.mk HK.out HB.out
theorem zqo:∀(l:List Nat) (f:Bool),allF f l=decide (idL f l=l.length)
 | [],_=>rfl
 |c::r,f=>by
  cases h:letB c f
  ·rw[zud h,zqb h];simp
  ·rw[zqa h,zhu h,zqo r false];simp
theorem zuw (l:List Nat):nameB l=decide (0<idL true l/\idL true l=l.length):=by
 unfold nameB;cases l with
 |nil=>rfl
 |cons c r=>
  rw[zqo];have:(c::r).length=r.length+1:=rfl;by_cases h:idL true (c::r)=(c::r).length
  ·rw[decide_eq_true h,decide_eq_true ⟨by omega,h⟩];rfl
  ·rw[decide_eq_false h,decide_eq_false (fun e=>h e.2)];rfl
theorem zux (s:ByteArray)(w:World)(hs:s.size<=2000000) :
  Calls Tryz.prog 128 #[.string s] w fun e w'=>e=.returned (.bool (nameB (bts s)))/\w'=w:=by
 obtain⟨n,hn⟩:∃n,idL true (bts s)=n:=⟨_,rfl⟩;have hW:∀w,Calls Tryz.prog 152 #[.string s,.int .i64 0] w fun e w'=>e=.returned (.int .i64 (n:Int))/\w'=w:=fun w=>by
  have h:=zkz s 0 w hs (Nat.zero_le _);rw[List.drop_zero,hn,Nat.zero_add] at h;exact h
 have hq:=zuw (bts s);rw[hn,zag] at hq;have HW:=Lib.hid hW;have HQ:=Lib.hid hq;clear hW hq hn;by_cases h0:0<n
 ·have h0':(0:Int)<(n:Int):=by omega
  by_cases hz:n=s.size
  ·have e1:((n:Int) == (s.size:Int))=true:=by rw[beq_iff_eq];omega
   have hr:=Lib.hid (HQ.out.trans (decide_eq_true ⟨h0,hz⟩));clear hz;go_enter Tryz.func128,Tryz.ntmps128
   go_wp2_with (go_at_call 152;(with_reducible refine(HW.out _).mono ?_);rintro e w' ⟨rfl,hw⟩;obtain rfl:=hw.symm;clear hw)
   go_ret;exact⟨zaf hr.out.symm,rfl⟩
  ·have e1:=za2 (d:=n) (k:=(s.size:Int)) (by omega)
   have hr:=Lib.hid (HQ.out.trans (decide_eq_false (fun e=>hz e.2)));clear hz;go_enter Tryz.func128,Tryz.ntmps128
   go_wp2_with (go_at_call 152;(with_reducible refine(HW.out _).mono ?_);rintro e w' ⟨rfl,hw⟩;obtain rfl:=hw.symm;clear hw)
   go_ret;exact⟨zaf hr.out.symm,rfl⟩
 ·have h0':¬(0:Int)<(n:Int):=by omega
  have hr:=Lib.hid (HQ.out.trans (decide_eq_false (fun e=>h0 e.1)));clear h0;go_enter Tryz.func128,Tryz.ntmps128
  go_wp2_with (go_at_call 152;(with_reducible refine(HW.out _).mono ?_);rintro e w' ⟨rfl,hw⟩;obtain rfl:=hw.symm;clear hw)
  go_ret;exact⟨zaf hr.out.symm,rfl⟩
end
section
def sgL:List (List Nat):=[60,45]::sigs.map fun x=>[x]
def sgS (i:Nat):ByteArray:=strOf (sgL.getD i [])
theorem z71:∀x ∈ sgL,∀y ∈ x,y<256:=by decide
theorem z4n (i:Nat)(h:i<10):bts (sgS i)=sgL.getD i []:=by
 refine zhp _ ?_;have:sgL.getD i [] ∈ sgL:=by
  rw[List.getD_eq_getElem?_getD,List.getElem?_eq_getElem (by exact h)];exact List.getElem_mem _
 exact z71 _ this
def prF (n:Nat):List (List Nat)->List Nat->Option Nat
 | [],_=>none
 |x::q,l=>if x.isPrefixOf l then some n else prF (n+1) q l
theorem zol {n:Nat}{x l:List Nat}{q:List (List Nat)}(h:x.isPrefixOf l=true):prF n (x::q) l=some n:=by
 show(if x.isPrefixOf l then some n else prF (n+1) q l)=_;rw[if_pos h]
theorem zuy {n:Nat}{x l:List Nat}{q:List (List Nat)}(h:x.isPrefixOf l=false):prF n (x::q) l=prF (n+1) q l:=by
 show(if x.isPrefixOf l then some n else prF (n+1) q l)=_;rw[h];rfl
theorem zuz:∀(q:List Nat) (n c:Nat) (r:List Nat),prF n (q.map fun x=>[x]) (c::r)=idxL n q c
 | [],_,_,_=>rfl
 |x::q,n,c,r=>by
  rw[List.map_cons];by_cases h:x=c
  ·rw[zkr h,zol (by subst h;simp[List.isPrefixOf])]
  ·rw[zob h,zuy (by simp[List.isPrefixOf];exact h),zuz q]
theorem zu0 (c:Nat)(r:List Nat):prF 2 sgL (c::r)=if c=60/\r.head?=some 45 then some 2 else signK c:=by
 unfold sgL;by_cases h:c=60/\r.head?=some 45
 ·obtain⟨rfl,hr⟩:=h
  rw[if_pos ⟨rfl,hr⟩,zol];cases r with
  |nil=>cases hr
  |cons d r=>
         have:d=45:=Option.some.inj hr;subst this;rfl
 ·rw[if_neg h,zuy,zuz]
  ·rfl
  ·cases r with
   |nil=>simp[List.isPrefixOf]
   |cons d r=>
    simp[List.isPrefixOf];intro h1 h2;exact h ⟨h1.symm,by rw[<-h2];rfl⟩
theorem z4o (j:Nat)(h:j<10):(sgL.getD j []).length=if j=0 then 2 else 1:=by
 rcases(by omega:j=0∨j=1∨j=2∨j=3∨j=4∨j=5∨j=6∨j=7∨j=8∨j=9) with rfl|rfl|rfl|rfl|rfl|rfl|rfl|rfl|rfl|rfl<;>rfl
theorem zzv (j:Nat)(h:j<10):sgL.drop j=sgL.getD j []::sgL.drop (j+1):=by
 rw[List.getD_eq_getElem?_getD,List.getElem?_eq_getElem (by exact h)];exact List.drop_eq_getElem_cons (by exact h)
theorem zcm (s p:ByteArray):Lib.hasPrefix s.data.toList p.data.toList=(bts p).isPrefixOf (bts s):=by
 unfold Lib.hasPrefix bts;generalize s.data.toList=a;generalize p.data.toList=b
 induction b generalizing a with
 |nil=>rfl
 |cons x b ih=>
  cases a with
  |nil=>rfl
  |cons y a=>
   simp only[List.map_cons,List.isPrefixOf];rw[ih a];congr 1;rw[Bool.eq_iff_iff,beq_iff_eq,beq_iff_eq,UInt8.toNat_inj]
end
section
open Go.RowKit
def SignsAt (w:World):Prop:=∀i,i<10->w.cell? ⟨1,i,none⟩=some (.string (sgS i))
theorem SignsAt.kept {n:Nat}{w w':World}(h:SignsAt w)(hb:Below n w w')(hn:w.heap.size<=n):SignsAt w':=fun i hi=>by
 have:=zac (h i hi);rw[(bcell hb).1 _ _ (by omega)];exact h i hi
def sgA:Array Value:=((List.range 10).map fun i=>Value.string (sgS i)).toArray
theorem z73 (i:Nat)(h:i<10):sgA[i]?=some (.string (sgS i)):=by
 unfold sgA;rw[List.getElem?_toArray,List.getElem?_map,List.getElem?_range h];rfl
theorem z4p:#[Value.string (sgS 0),Value.string (sgS 1),Value.string (sgS 2),Value.string (sgS 3),Value.string (sgS 4),Value.string (sgS 5),Value.string (sgS 6),Value.string (sgS 7),Value.string (sgS 8),Value.string (sgS 9)]=sgA:=rfl
theorem zu1 (w:World)(j:Nat)(h:j<10):(Instr.index 212 (.agg sgA) (.int .i64 (j:Int))).run Tryz.prog w=.ok (.string (sgS j)) w:=by
 have h1:=z73 j h;have h2:(0:Int)<=(j:Int)/\(j:Int)<10:=by omega
 simp[Instr.index,run_underlying Tryz.underlying212,asIntOf,h2,h,Go.part,go_sem,Tryz.sizeOf9,Tryz.isAgg9,h1]
end
end Go.Proofs.YthhppmehhdlmnaaGreatDoor
