/- The program's small functions: strings' HasPrefix, IndexAny, Clone by contracts; letter, digit, word, skip, Name; the table of signs and Kind. -/
import Derived.Shelf.Strings.IndexAnyAll
import Derived.Shelf.Strings.Prefix
import Derived.Laws.RangeAny
import Derived.Shelf.Small.Utf8
import Derived.Deep.LoopGhost
import Derived.Shelf.Strconv.Clone
import Derived.Lib.TrimU
import Derived.Lib.Strings
import Derived.Test.YtmopdlbpkiaoeaaGreatDoorPqB
set_option maxRecDepth 100000
set_option maxHeartbeats 2000000
open Go.IntKind renaming i64->jd
open Go.Value renaming int->je, string->jh, bool->ji, pointer->jj, tuple->jk
namespace Go.Proofs.YtmopdlbpkiaoeaaGreatDoor
open Go.Lib renaming hid->qaa
open Go.Proofs.Tryz renaming func120->qfu, func128->qex, isAgg9->qf3, ntmps120->qf8, ntmps128->qem, prog->qab, sizeOf9->qfw, underlying3->qc1, underlying4->qdw, underlying5->qcp, underlying9->qba, zeroValue3->qfv, zeroValue9->qfx
open Go.RowKit.Below renaming refl->qaf
open List renaming drop_eq_nil_of_le->qay, getD_eq_getElem?_getD->qcg, getElem?_eq_getElem->qae, length_drop->qa2, map_cons->qb2
open Nat renaming le_refl->qac
open UInt8 renaming toNat_inj->qfa
variable {s:ByteArray}{k n p:Nat}{w w':World}
section
open Go.RowKit Go.Shelf
def z6a:Ren:=⟨fun|119=>142|137=>141|152=>120|153=>99|217=>155|224=>143|225=>144|226=>121|227=>122|228=>123|266=>163|n=>n,fun|0=>0|3=>3|4=>4|5=>5|9=>9|21=>21|46=>156|116=>194|117=>195|124=>224|n=>n,fun|n=>n⟩
theorem ziy:Go.Proofs.Lays.n153 qab z6a:={
 mixed:=jb
 f119:=Tryz.func142.trans (congrArg some jb)
 f137:=Tryz.func141.trans (congrArg some jb)
 f152:=qfu.trans (congrArg some jb)
 f153:=Tryz.func99.trans (congrArg some jb)
 f217:=Tryz.func155.trans (congrArg some jb)
 f224:=Tryz.func143.trans (congrArg some jb)
 f225:=Tryz.func144.trans (congrArg some jb)
 f226:=Tryz.func121.trans (congrArg some jb)
 f227:=Tryz.func122.trans (congrArg some jb)
 f228:=Tryz.func123.trans (congrArg some jb)
 f266:=Tryz.func163.trans (congrArg some jb)
 t0:=Tryz.underlying0
 a0:=Tryz.isAgg0
 z0:=Tryz.sizeOf0
 v0:=Tryz.zeroValue0
 t3:=qc1
 a3:=Tryz.isAgg3
 z3:=Tryz.sizeOf3
 v3:=qfv
 t4:=qdw
 a4:=Tryz.isAgg4
 z4:=Tryz.sizeOf4
 v4:=Tryz.zeroValue4
 t5:=qcp
 a5:=Tryz.isAgg5
 z5:=Tryz.sizeOf5
 v5:=Tryz.zeroValue5
 t9:=qba
 a9:=qf3
 z9:=qfw
 v9:=qfx
 t21:=Tryz.underlying21
 a21:=Tryz.isAgg21
 z21:=Tryz.sizeOf21
 v21:=Tryz.zeroValue21
 t46:=Tryz.underlying156
 a46:=Tryz.isAgg156
 z46:=Tryz.sizeOf156
 v46:=Tryz.zeroValue156
 t116:=Tryz.underlying194
 a116:=Tryz.isAgg194
 z116:=Tryz.sizeOf194
 t117:=Tryz.underlying195
 a117:=Tryz.isAgg195
 z117:=Tryz.sizeOf195
 v117:=Tryz.zeroValue195
 t124:=Tryz.underlying224
 a124:=Tryz.isAgg224
 z124:=Tryz.sizeOf224
 v124:=Tryz.zeroValue224 }
def ren99:Ren:=⟨fun|99=>103|206=>130|n=>n,fun|3=>3|4=>4|9=>9|n=>n,fun|n=>n⟩
theorem z6b:Go.Proofs.Lays.n99 qab ren99:={
 mixed:=jb
 f99:=Tryz.func103.trans (congrArg some jb)
 f206:=Tryz.func130.trans (congrArg some jb)
 t3:=qc1
 a3:=Tryz.isAgg3
 z3:=Tryz.sizeOf3
 v3:=qfv
 t4:=qdw
 a4:=Tryz.isAgg4
 z4:=Tryz.sizeOf4
 v4:=Tryz.zeroValue4
 t9:=qba
 a9:=qf3
 z9:=qfw
 v9:=qfx }
theorem z2e:(qab.info? 194).map (fun i=>(i.zero,i.size))=some (some (.agg (Array.replicate 256 (ji false))),256):=jb
theorem zen (s p:ByteArray)(w:World) :
  Calls qab 103 #[jh s,jh p] w fun e w'=>e=.returned (ji (Lib.hasPrefix s.data.toList p.data.toList))/\w'=w:=Any.strings_HasPrefix z6b s p w
theorem zli (s:ByteArray)(c:Int)(w:World) :
  Calls qab 141 #[jh s,je .u8 c] w fun e w'=>e=.returned (je jd (Lib.indexByte s.data.toList c.toNat.toUInt8))/\w'=w:=Any.strings_IndexByte { ziy with } s c w
theorem zkf (s:ByteArray)(r:Int)(w:World)(h0:0<=r)(h1:r<128) :
  Calls qab 120 #[jh s,je .i32 r] w fun e w'=>e=.returned (je jd (Lib.indexByte s.data.toList r.toNat.toUInt8))/\w'=w:=Any.strings_IndexRune_ascii { ziy with } s r w h0 h1
theorem zsm (n:Int)(w:World) :
  Calls qab 121 #[je jd n] w fun e w'=>e=.returned (ji (decide (8<n)))/\w'=w:=Any.strings_shouldUseASCIISet { ziy with } n w
def nl2:ByteArray:=⟨#[10,13]⟩
theorem ziz:∀l:List UInt8,Lib.indexAny l [10,13]=match comL (l.map UInt8.toNat) with|none=>-1|some m=>(m:Int)
 | []=>rfl
 |b::r=>by
  have ih:=ziz r;rw[Lib.indexAny,qb2];by_cases h:b.toNat=10∨b.toNat=13
  ·rw[zek h,if_pos]
   ·rfl
   ·rcases h with h|h
    ·have:b=10:=qfa.1 h
     subst this;decide
    ·have:b=13:=qfa.1 h
     subst this;decide
  ·rw[zb7 h,if_neg]
   ·rw[ih]
    cases comL (r.map UInt8.toNat) with
    |none=>rfl
    |some m=>
     show(if ((m:Int) == -1)=true then (-1:Int) else m+1)=_;rw[if_neg (by rw[beq_iff_eq];omega)];rfl
   ·intro hc
    rw[List.contains_iff_mem] at hc;simp at hc;rcases hc with rfl|rfl
    ·exact h (Or.inl rfl)
    ·exact h (Or.inr rfl)
theorem zlj (s:ByteArray)(w:World)(h8:8<s.size)(hs:s.size<=2000000) :
  Calls qab 99 #[jh s,jh nl2] w fun e w'=>e=.returned (je jd (match comL (bts s) with|none=>-1|some m=>(m:Int)))/\Below w.heap.size w w':=by
 refine(Any.strings_IndexAny_long ziy (zero_of_info z2e).1 (zero_of_info z2e).2 s nl2 w ja h8 U ja (fun j b hb=>?_)).mono fun e w' ⟨h1,h2⟩=>⟨?_,?_⟩
 ·match j,hb with
  |0,hb=>cases hb;decide
  |1,hb=>cases hb;decide
 ·rw[h1]
  show Ending.returned (je jd (Lib.indexAny s.data.toList [10,13]))=_;rw[ziz];rfl
 ·rw[h2]
  exact((qaf _ _).alloc (qac _) _).alloc jc _
theorem zeo (r:Int)(w:World) :
  Calls qab 142 #[je .i32 r] w fun e w'=>e=.returned (ji (Lib.validRune r))/\w'=w:=Any.utf8_ValidRune { ziy with } r w
theorem z3q (n:Nat)(h:n<256):(UInt8.ofNat n).toNat=n:=by simp;omega
theorem zzb (r:Int)(h0:128<=r)(h1:r<=1114111):2<=(Utf8.encode r).size/\(Utf8.encode r).size<=4/\((Utf8.encode r).size=2->∀h:1<(Utf8.encode r).size,128<=(Utf8.encode r)[1].toNat):=by
 have hc:∀c:Nat,c=(if Utf8.valid r then r.toNat else Utf8.runeError)->128<=c:=fun c h=>by
  rw[h];split
  ·omega
  ·decide
 unfold Utf8.encode;generalize hg:(if Utf8.valid r then r.toNat else Utf8.runeError)=c;have hc':=hc c hg.symm;dsimp only;rw[if_neg U];split
 ·refine⟨by show 2<=2;omega,by show 2<=4;omega,fun _ h=>?_⟩
  show 128<=(UInt8.ofNat (0x80+c%64)).toNat;rw[z3q _ U];omega
 ·split
  ·exact⟨by show 2<=3;omega,by show 3<=4;omega,fun h=>absurd h (by show ¬3=2;omega)⟩
  ·exact⟨by show 2<=4;omega,by show 4<=4;omega,fun h=>absurd h (by show ¬4=2;omega)⟩
theorem zzc (w:World) :
  Calls qab 120 #[jh nl2,je .i32 65533] w fun e w'=>e=.returned (je jd (-1))/\Below w.heap.size w w':=by
 have n0:∀(w:World) ty,(Instr.next (jj (some ⟨w.heap.size,0,none⟩)) true ty).run qab (w.iter ⟨#[10,13]⟩ 0)=.ok (jk #[ji true,je jd 0,je .i32 10]) (w.iter ⟨#[10,13]⟩ 1):=fun w ty=>run_next_ascii (P:=qab) w ⟨#[10,13]⟩ 0 ty ja ja
 have n1:∀(w:World) ty,(Instr.next (jj (some ⟨w.heap.size,0,none⟩)) true ty).run qab (w.iter ⟨#[10,13]⟩ 1)=.ok (jk #[ji true,je jd 1,je .i32 13]) (w.iter ⟨#[10,13]⟩ 2):=fun w ty=>run_next_ascii (P:=qab) w ⟨#[10,13]⟩ 1 ty ja ja
 have n2:∀(w:World) ty,(Instr.next (jj (some ⟨w.heap.size,0,none⟩)) true ty).run qab (w.iter ⟨#[10,13]⟩ 2)=.ok (jk #[ji false]) (w.iter ⟨#[10,13]⟩ 2):=fun w ty=>run_next_end (P:=qab) w ⟨#[10,13]⟩ 2 ty ja
 unfold nl2;go_enter qfu,qf8;go_wp2;refine wp_loop_rounds 3 ?_;rw[rounds_succ];go_wp2;rw[rounds_succ];go_wp2;rw[rounds_succ];go_wp2;go_ret;exact⟨rfl,(qaf _ _).alloc (qac _) _⟩
theorem zzd (r:Int)(w:World)(h0:128<=r)(he:r≠65533)(hv:Lib.validRune r=false) :
  Calls qab 120 #[jh nl2,je .i32 r] w fun e w'=>e=.returned (je jd (-1))/\Below w.heap.size w w':=by
 have e1:=zae he;have h0':¬r<128:=U
 have HV:=qaa hv;unfold nl2;clear he hv;go_enter qfu,qf8
 go_wp2_with (go_at_call 142;refine(zeo _ _).mono ?_;rintro e w' ⟨rfl,hw⟩;obtain rfl:=hw.symm;clear hw;rw[HV.out])
 go_ret;exact⟨rfl,qaf _ _⟩
theorem zut (r:Int)(w:World)(h0:128<=r)(h1:r<=1114111)(he:r≠65533)(hv:Lib.validRune r=true) :
  Calls qab 120 #[jh nl2,je .i32 r] w fun e w'=>e=.returned (je jd (-1))/\Below w.heap.size w w':=by
 have e1:=zae he;have h0':¬r<128:=U
 have HV:=qaa hv;obtain⟨x1,x2,x3⟩:=zzb r h0 h1;have HX:=qaa x3;unfold nl2;clear he hv x3;by_cases hz:(Utf8.encode r).size=2
 ·have z3:1<(Utf8.encode r).size:=U
  have hb:=HX.out hz z3;have z1:((Utf8.encode r).size:Int)-1=1:=U
  have z2:(1:Int)<((Utf8.encode r).size:Int):=U
  have ksl:∀w,(Instr.slice 9 (jh ⟨#[10,13]⟩) (some (je jd 2)) none none).run qab w=.ok (jh ⟨#[]⟩) w:=fun w=>run_slice_string_l (P:=qab) (w:=w) 9 ⟨#[10,13]⟩ qba .i64 2 ja ja
  have z4:((((⟨#[10,13]⟩:ByteArray)[1]' ja).toNat:Int) != (((Utf8.encode r)[1]'z3).toNat:Int))=true:=by rw[bne_iff_ne,show(((⟨#[10,13]⟩:ByteArray)[1]' ja).toNat:Int)=13 from rfl];omega
  clear hz HX;go_enter qfu,qf8
  go_wp2_with (go_at_call 142;refine(zeo _ _).mono ?_;rintro e w' ⟨rfl,hw⟩;obtain rfl:=hw.symm;clear hw;rw[HV.out])
  go_step3
  go_wp2;refine wp_loop_rounds 1 ?_;rw[rounds_succ];go_wp2
  go_step3
  go_wp2;go_quiet (fail);go_wp2;obtain⟨W1,hW1⟩:∃W1,w.drewN nq=W1:=⟨_,rfl⟩;rw[hW1];have hB:Hid (Below w.heap.size w W1):=qaa (by rw[<-hW1];exact zak (qaf _ _));clear hW1;have e11:IntKind.i64.wrap 2=2:=ja
  go_quiet ((go_at_call 141;exact Calls.quiet_of_same (zli _ _ _)));go_wp2;simp only[Exit.inBlock,Exit.then,Exit.noGoto_ret];go_ret;exact⟨rfl,zak hB.out⟩
 ·have z0:¬((Utf8.encode r).size:Int)-1<2:=U
  have z1:(2:Int)<=((Utf8.encode r).size:Int):=U
  clear hz HX;go_enter qfu,qf8
  go_wp2_with (go_at_call 142;refine(zeo _ _).mono ?_;rintro e w' ⟨rfl,hw⟩;obtain rfl:=hw.symm;clear hw;rw[HV.out])
  go_step3
  go_wp2;refine wp_loop_rounds 1 ?_;rw[rounds_succ];go_wp2
  (try rw[Exit.noGoto_ret])
  go_ret;exact⟨rfl,qaf _ _⟩
theorem zuu (r:Int)(w:World)(h0:128<=r)(h1:r<=1114111) :
  Calls qab 120 #[jh nl2,je .i32 r] w fun e w'=>e=.returned (je jd (-1))/\Below w.heap.size w w':=by
 by_cases he:r=65533
 ·subst he;exact zzc w
 ·cases hv:Lib.validRune r
  ·exact zzd r w h0 he hv
  ·exact zut r w h0 h1 he hv
end
section
open Go.RowKit Go.Shelf
theorem z6c (s:ByteArray)(i:Nat)(h:i<s.size):s.get! i=s[i]:=by
 simp[ByteArray.get!,getElem!_pos,h];rfl
theorem zo3 (s:ByteArray)(pos:Nat)(h:pos<s.size)(ha:128<=s[pos].toNat):∀k,k<(Utf8.decode s pos).2->pos+k<s.size/\128<=(s.get! (pos+k)).toNat:=by
 have h0:128<=(s.get! (pos+0)).toNat:=by rw[get_at s pos h];exact ha
 have hn:¬(s.get! (pos+0)).toNat<128:=U
 have one:∀k,k<1->pos+k<s.size/\128<=(s.get! (pos+k)).toNat:=fun k hk=>by
  obtain rfl:k=0:=U
  exact⟨h,h0⟩
 simp only[Utf8.decode,hn,if_false]
 repeat' split
 all_goals intro k hk
 all_goals (simp only[Bool.and_eq_true,decide_eq_true_eq,beq_iff_eq] at *)
 all_goals first
  |exact one k hk
  |(rcases(by omega:k=0∨k=1∨k=2∨k=3) with rfl|rfl|rfl|rfl<;>first|exact⟨h,h0⟩|(constructor<;>omega)|omega)
theorem zm1 (s:ByteArray)(k:Nat):∀n,(∀j,j<n->k+j<s.size/\128<=(s.get! (k+j)).toNat)->comL ((bts s).drop k)=(comL ((bts s).drop (k+n))).map (· + n)
 |0,_=>jc
 |n+1,h=>by
  rw[zm1 s k n (fun j hj=>h j U)];obtain⟨h1,h2⟩:=h n U;rw[z6c s _ h1] at h2;rw[zas s (k+n) h1,zb7 U,Option.map_map];refine congrArg (fun f=>Option.map f _) (funext fun x=>?_);show x+1+n=x+(n+1);omega
def zdr (w:World)(b:Nat)(s:ByteArray)(pos:Nat):World:={ w with heap:=w.heap.setIfInBounds b (.stringIter s pos) }
theorem zsn {b:Nat}(s:ByteArray)(pos:Nat)(h:b<w.heap.size):(zdr w b s pos).heap[b]?=some (.stringIter s pos):=by
 unfold zdr;simp[h]
theorem zlk {a:World}{b:Nat}(hb:Below n a w)(hn:n<=b)(s:ByteArray)(pos:Nat):Below n a (zdr w b s pos):=
 hb.trans ⟨rfl,rfl,rfl,by unfold zdr;simp,fun k hk=>by unfold zdr;rw[Array.getElem?_setIfInBounds_ne U]⟩
theorem zo4 (w:World)(b:Nat)(s:ByteArray)(pos:Nat)(ty:TypeId)(hb:w.heap[b]?=some (.stringIter s pos))(h:pos<s.size) :
  (Instr.next (jj (some ⟨b,0,none⟩)) true ty).run qab w=.ok (jk #[ji true,je jd pos,je .i32 (Utf8.decode s pos).1]) (zdr w b s (pos+(Utf8.decode s pos).2)):=by
 simp only[Instr.next,getObj,setObj,Sem.run_bind,Sem.run,hb,Result.andThen,h,if_true];simp[goInt,zdr]
theorem zll (w:World)(b:Nat)(s:ByteArray)(pos:Nat)(ty:TypeId)(hb:w.heap[b]?=some (.stringIter s pos))(h:¬pos<s.size) :
  (Instr.next (jj (some ⟨b,0,none⟩)) true ty).run qab w=.ok (jk #[ji false]) w:=by
 simp[Instr.next,getObj,Sem.run,hb,h]
def ComIs (o:Option Nat)(w:World)(e:Ending)(w':World):Prop:=e=.returned (je jd (match o with|none=>-1|some m=>(m:Int)))/\Below w.heap.size w w'
theorem ComIs.no {o:Option Nat}(h:o=none)(hb:Below w.heap.size w w'):ComIs o w (.returned (je jd (-1))) w':=by subst h;exact⟨rfl,hb⟩
theorem ComIs.yes {o:Option Nat}{m:Nat}(h:o=some m)(hb:Below w.heap.size w w'):ComIs o w (.returned (je jd (m:Int))) w':=by subst h;exact⟨rfl,hb⟩
theorem z3r (x:UInt8)(h:x.toNat=10∨x.toNat=13):0<=Lib.indexByte nl2.data.toList x:=by
 rcases h with h|h
 ·have:x=10:=qfa.1 h
  subst this;decide
 ·have:x=13:=qfa.1 h
  subst this;decide
theorem zuv (x:UInt8)(h:¬(x.toNat=10∨x.toNat=13)):Lib.indexByte nl2.data.toList x=-1:=by
 have h1:((10:UInt8) == x)=false:=by rw[beq_eq_false_iff_ne];rintro rfl;exact h (Or.inl rfl)
 have h2:((13:UInt8) == x)=false:=by rw[beq_eq_false_iff_ne];rintro rfl;exact h (Or.inr rfl)
 show Lib.indexByte [10,13] x=-1;simp[Lib.indexByte,h1,h2]
theorem zjx (s:ByteArray)(w:World)(h8:s.size<=8) :
  Calls qab 99 #[jh s,jh nl2] w (ComIs (comL (bts s)) w):=by
 have h8z:decide ((8:Int)<(s.size:Int))=false:=decide_eq_false U;have H8:=qaa h8z;have hemp:nl2.toList.isEmpty=false:=by rw[ByteArray.toList_eq];rfl
 have hn1:((nl2.size:Int) == 1)=false:=ja
 clear h8z;go_enter Tryz.func99,Tryz.ntmps99
 go_wp2_with (go_at_call 121;refine(zsm _ _).mono ?_;rintro e w' ⟨rfl,hw⟩;obtain rfl:=hw.symm;clear hw;rw[H8.out])
 have hB0:w.heap.size<(w.iter s 0).heap.size:=by simp[World.iter]
 go_loopg [9,10] s.size (fun g _ _ wx=>∃k:Nat,k+g=s.size/\wx.heap[w.heap.size]?=some (.stringIter s k)/\w.heap.size<wx.heap.size/\Below w.heap.size w wx/\comL (bts s)=(comL ((bts s).drop k)).map (· + k))
 case atStart=>exact⟨0,U,World.iter_heap w s 0,hB0,(qaf _ _).alloc (qac _) _,jc⟩
 case round=>
  obtain⟨k,hkg,hI,hBz,hb,hc⟩:=hrel;have HC:=qaa hc;have HB:=qaa hb;clear hc hb;by_cases hlt:k<s.size
  ·have hnx:=fun ty=>zo4 wr w.heap.size s k ty hI hlt
   have hb2:=zlk (HB.out) (qac _) s (k+(Utf8.decode s k).2);have hi2:=zsn (w:=wr) s (k+(Utf8.decode s k).2) hBz;have hz2:w.heap.size<(zdr wr w.heap.size s (k+(Utf8.decode s k).2)).heap.size:=by unfold zdr;simpa using hBz
   clear hI;by_cases ha:s[k].toNat<128
   ·have hd:=decode_ascii s k hlt ha
    rw[hd] at hnx hb2 hi2 hz2;dsimp only at hnx hb2 hi2 hz2;generalize zdr wr w.heap.size s (k+1)=W2 at hnx hb2 hi2 hz2;have HN:=qaa hb2;have HI2:=qaa hi2;have hdr:=zas s k hlt;have hback:((s[k].toNat:Int)).toNat.toUInt8=s[k]:=jc
    have a0:(0:Int)<=(s[k].toNat:Int):=U
    have a1:(s[k].toNat:Int)<128:=U
    by_cases hnl:s[k].toNat=10∨s[k].toNat=13
    ·have hq:comL (bts s)=some k:=by rw[HC.out,hdr,zek hnl];simp
     have hge:=z3r s[k] hnl;have hR:∀w,Calls qab 120 #[jh nl2,je .i32 (s[k].toNat:Int)] w fun e w'=>e=.returned (je jd (Lib.indexByte nl2.data.toList s[k]))/\w'=w:=fun w=>by
      have h:=zkf nl2 (s[k].toNat:Int) w a0 a1;rw[hback] at h;exact h
     have HQ:=qaa hq;have HR:=qaa hR;clear hq hdr hnl hd hb2 hi2 hR hback
     go_wp2_with (go_at_call 120;(with_reducible refine(HR.out _).mono ?_);rintro e w' ⟨rfl,hw⟩;obtain rfl:=hw.symm;clear hw)
     go_ret;exact ComIs.yes HQ.out HN.out
    ·have hq:comL (bts s)=(comL ((bts s).drop (k+1))).map (· + (k+1)):=by
      rw[HC.out,hdr,zb7 hnl,Option.map_map];refine congrArg (fun f=>Option.map f _) (funext fun x=>?_);show x+1+k=x+(k+1);omega
     have hR:∀w,Calls qab 120 #[jh nl2,je .i32 (s[k].toNat:Int)] w fun e w'=>e=.returned (je jd (-1))/\w'=w:=fun w=>by
      have h:=zkf nl2 (s[k].toNat:Int) w a0 a1;rw[hback,zuv _ hnl] at h;exact h
     have HQ:=qaa hq;have HR:=qaa hR;clear hq hdr hnl hd hb2 hi2 hR hback
     go_wp2_with (go_at_call 120;(with_reducible refine(HR.out _).mono ?_);rintro e w' ⟨rfl,hw⟩;obtain rfl:=hw.symm;clear hw)
     go_roundg (s.size-(k+1))
     case measure=>omega
     case rel=>exact⟨k+1,U,HI2.out,hz2,HN.out,HQ.out⟩
   ·obtain⟨g1,g2⟩:=decode_high s k hlt U
    have g3:(Utf8.decode s k).1<=1114111:=Lib.rune_le s k;have hsp:=zo3 s k hlt U;generalize Utf8.decode s k=d at hnx hb2 hi2 hz2 g1 g2 g3 hsp;obtain⟨r,n⟩:=d;dsimp only at hnx hb2 hi2 hz2 g1 g2 g3 hsp;generalize zdr wr w.heap.size s (k+n)=W2 at hnx hb2 hi2 hz2;have hq:comL (bts s)=(comL ((bts s).drop (k+n))).map (· + (k+n)):=by
     rw[HC.out,zm1 s k n hsp,Option.map_map];refine congrArg (fun f=>Option.map f _) (funext fun x=>?_);show x+n+k=x+(k+n);omega
    have hle:k+n<=s.size:=by have:=(hsp (n-1) U).1;omega
    have HN:=qaa hb2;have HI2:=qaa hi2;have HQ:=qaa hq;clear hq hb2 hi2 hsp
    go_wp2_with (go_at_call 120;(with_reducible refine(zuu (r:Int) _ U U).mono ?_);rintro e w3 ⟨rfl,hb3⟩)
    have H3:=qaa hb3;clear hb3
    go_roundg (s.size-(k+n))
    case measure=>omega
    case rel=>exact⟨k+n,U,by rw[H3.out.block _ hz2];exact HI2.out,Nat.lt_of_lt_of_le hz2 H3.out.size,HN.out.trans (H3.out.mono U),HQ.out⟩
  ·have hnx:=fun ty=>zll wr w.heap.size s k ty hI hlt
   have hq:comL (bts s)=none:=by rw[HC.out,qay (by rw[zaj];omega)];rfl
   have HQ:=qaa hq;clear hq;go_wp2;go_ret;exact ComIs.no HQ.out HB.out
theorem zhr (s:ByteArray)(w:World)(hs:s.size<=2000000) :
  Calls qab 99 #[jh s,jh nl2] w (ComIs (comL (bts s)) w):=by
 by_cases h8:s.size<=8
 ·exact zjx s w h8
 ·exact zlj s w U hs
def z6d:Ren:=⟨fun|316=>116|n=>n,fun|0=>0|3=>3|4=>4|9=>9|37=>71|127=>103|5=>5|n=>n,fun|n=>n⟩
theorem z3s:Go.Proofs.LaysM.n316 qab z6d:={
 mixed:=jb
 f316:=Tryz.func116.trans (congrArg some jb)
 t0:=Tryz.underlying0
 a0:=Tryz.isAgg0
 z0:=Tryz.sizeOf0
 v0:=Tryz.zeroValue0
 t3:=qc1
 a3:=Tryz.isAgg3
 z3:=Tryz.sizeOf3
 v3:=qfv
 t4:=qdw
 a4:=Tryz.isAgg4
 z4:=Tryz.sizeOf4
 v4:=Tryz.zeroValue4
 t9:=qba
 a9:=qf3
 z9:=qfw
 v9:=qfx
 t37:=Tryz.underlying71
 a37:=Tryz.isAgg71
 z37:=Tryz.sizeOf71
 v37:=Tryz.zeroValue71
 t127:=Tryz.underlying103
 a127:=Tryz.isAgg103
 z127:=Tryz.sizeOf103
 v127:=Tryz.zeroValue103
 t5:=qcp
 a5:=Tryz.isAgg5
 z5:=Tryz.sizeOf5
 v5:=Tryz.zeroValue5
 i0:=jb
 i3:=jb
 i4:=jb
 i5:=jb
 i9:=jb
 i37:=jb
 i127:=by kernel_rfl }
theorem zo5 (s:ByteArray)(w:World)(hs:s.size<=281474976710656) :
  Calls qab 116 #[jh s] w fun e w'=>e=.returned (jh s)/\Below w.heap.size w w':=Any.stringslite_Clone z3s s w hs
theorem ze1 (s:ByteArray)(w:World)(hs:s.size<=2000000) :
  Calls qab 90 #[jh s] w fun e w'=>e=.returned (jh s)/\Below w.heap.size w w':=by
 go_enter Tryz.func90,Tryz.ntmps90
 go_wp2_with (go_at_call 116;(with_reducible refine(zo5 s _ U).mono ?_);rintro e w' ⟨rfl,hb⟩)
 go_ret;exact⟨rfl,hb⟩
end
section
open Go.RowKit
theorem zo6 (c:Nat)(w:World) :
  Calls qab 128 #[je .u8 (c:Int)] w fun e w'=>e=.returned (ji (letB c true))/\w'=w:=by
 by_cases hd:48<=c/\c<=57
 ·have hr:=qaa (show letB c true=false by unfold letB;rw[if_pos hd];rfl)
  have n1:¬(97:Int)<=(c:Int):=U
  have n2:¬(65:Int)<=(c:Int):=U
  have n3:=zae (c:=(c:Int)) (k:=95) U;clear hd;go_enter qex,qem;go_wp2;go_ret;exact⟨zap hr.out.symm,rfl⟩
 ·have hl:letB c true=decide (c=95∨(97<=c/\c<=122)∨(65<=c/\c<=90)):=by unfold letB;rw[if_neg hd]
  have HL:=qaa hl;clear hl hd;by_cases h97:97<=c
  ·have m1:(97:Int)<=(c:Int):=U
   by_cases h122:c<=122
   ·have m2:(c:Int)<=122:=U
    have hr:=qaa (HL.out.trans (decide_eq_true U):letB c true=true);go_enter qex,qem;go_wp2;go_ret;exact⟨zap hr.out.symm,rfl⟩
   ·have m2:¬(c:Int)<=122:=U
    have m3:(65:Int)<=(c:Int):=U
    have m4:¬(c:Int)<=90:=U
    have n3:=zae (c:=(c:Int)) (k:=95) U;have hr:=qaa (HL.out.trans (decide_eq_false U):letB c true=false);go_enter qex,qem;go_wp2;go_ret;exact⟨zap hr.out.symm,rfl⟩
  ·have m1:¬(97:Int)<=(c:Int):=U
   by_cases h95:c=95
   ·subst h95
    have hr:=qaa (HL.out.trans ja:letB 95 true=true);go_enter qex,qem;go_wp2;go_ret;exact⟨zap hr.out.symm,rfl⟩
   ·have n3:=zae (c:=(c:Int)) (k:=95) U
    by_cases h65:65<=c
    ·have m3:(65:Int)<=(c:Int):=U
     by_cases h90:c<=90
     ·have m4:(c:Int)<=90:=U
      have hr:=qaa (HL.out.trans (decide_eq_true U):letB c true=true);clear h95;go_enter qex,qem;go_wp2;go_ret;exact⟨zap hr.out.symm,rfl⟩
     ·have m4:¬(c:Int)<=90:=U
      have hr:=qaa (HL.out.trans (decide_eq_false U):letB c true=false);clear h95;go_enter qex,qem;go_wp2;go_ret;exact⟨zap hr.out.symm,rfl⟩
    ·have m3:¬(65:Int)<=(c:Int):=U
     have hr:=qaa (HL.out.trans (decide_eq_false U):letB c true=false);clear h95;go_enter qex,qem;go_wp2;go_ret;exact⟨zap hr.out.symm,rfl⟩
def digB (c:Nat):Bool:=decide (48<=c/\c<=57)
theorem zg8 (c:Nat):letB c false=(letB c true || digB c):=by
 unfold letB digB;by_cases h:48<=c/\c<=57<;>simp[h]
theorem zso (c:Nat)(w:World) :
  Calls qab 129 #[je .u8 (c:Int)] w fun e w'=>e=.returned (ji (digB c))/\w'=w:=by
 by_cases h1:48<=c
 ·have m1:(48:Int)<=(c:Int):=U
  by_cases h2:c<=57
  ·have m2:(c:Int)<=57:=U
   have hr:=qaa (show digB c=true from decide_eq_true ⟨h1,h2⟩);go_enter Tryz.func129,Tryz.ntmps129;go_wp2;go_ret;exact⟨zap hr.out.symm,rfl⟩
  ·have m2:¬(c:Int)<=57:=U
   have hr:=qaa (show digB c=false from decide_eq_false U);go_enter Tryz.func129,Tryz.ntmps129;go_wp2;go_ret;exact⟨zap hr.out.symm,rfl⟩
 ·have m1:¬(48:Int)<=(c:Int):=U
  have hr:=qaa (show digB c=false from decide_eq_false U);go_enter Tryz.func129,Tryz.ntmps129;go_wp2;go_ret;exact⟨zap hr.out.symm,rfl⟩
theorem zfj (c:Nat)(r:Bool)(w:World)(h:letB c true=r):Calls qab 128 #[je .u8 (c:Int)] w fun e w'=>e=.returned (ji r)/\w'=w:=by subst h;exact zo6 c w
theorem zm2 (c:Nat)(r:Bool)(w:World)(h:digB c=r):Calls qab 129 #[je .u8 (c:Int)] w fun e w'=>e=.returned (ji r)/\w'=w:=by subst h;exact zso c w
def WordAt (s:ByteArray)(p k:Nat):Prop:=p<=k/\k<=s.size/\idL true ((bts s).drop p)+p=k+idL (decide (k=p)) ((bts s).drop k)
theorem WordAt.start (hp:p<=s.size):WordAt s p p:=⟨qac _,hp,by rw[decide_eq_true rfl];omega⟩
theorem WordAt.step (h:WordAt s p k)(hlt:k<s.size)(hl:letB s[k].toNat (decide (k=p))=true):WordAt s p (k+1):=by
 obtain⟨h1,h2,h3⟩:=h;rw[zas s k hlt,zbu hl] at h3;exact⟨U,U,by rw[decide_eq_false U];omega⟩
theorem WordAt.stop (h:WordAt s p k)(hlt:k<s.size)(hl:letB s[k].toNat (decide (k=p))=false):k=p+idL true ((bts s).drop p):=by
 obtain⟨h1,h2,h3⟩:=h;rw[zas s k hlt,zex hl] at h3;omega
theorem WordAt.fin (h:WordAt s p k)(hlt:¬k<s.size):k=p+idL true ((bts s).drop p):=by
 obtain⟨h1,h2,h3⟩:=h;rw[qay (i:=k) (by rw[zaj];omega)] at h3;have:idL (decide (k=p)) []=0:=rfl;omega
theorem zlm (s:ByteArray)(p:Nat)(w:World)(hs:s.size<=2000000)(hp:p<=s.size) :
  Calls qab 102 #[jh s,je jd (p:Int)] w fun e w'=>e=.returned (je jd ((p+idL true ((bts s).drop p):Nat):Int))/\w'=w:=by
 go_enter Tryz.func102,Tryz.ntmps102;go_wp2
 go_loop [5] (fun c=>∃k:Nat,WordAt s p k/\c=je jd k) (fun c=>s.size-(intOf c).toNat)
 case atStart=>exact⟨p,WordAt.start hp,rfl⟩
 case round=>
  obtain⟨k,hk,rfl⟩:=hrel;have hk1:=hk.1;have hk2:=hk.2.1;have HK:=qaa hk;clear hk;by_cases hlt:k<s.size
  ·have hlt':(k:Int)<(s.size:Int):=U
   cases hl:letB s[k].toNat true
   ·by_cases hkp:k=p
    ·subst hkp
     have hq:=qaa (HK.out.stop hlt (by rw[decide_eq_true rfl];exact hl));have HL:=qaa hl;clear hl HK
     go_wp2_with (go_at_call 128;(with_reducible refine(zfj _ false _ HL.out).mono ?_);rintro e w' ⟨rfl,hw⟩;obtain rfl:=hw.symm;clear hw)
     go_ret;exact⟨zfv (congrArg _ hq.out),rfl⟩
    ·have hpk:(p:Int)<(k:Int):=U
     cases hd:digB s[k].toNat
     ·have hq:=qaa (HK.out.stop hlt (by rw[decide_eq_false hkp,zg8,hl,hd];rfl))
      have HL:=qaa hl;have HD:=qaa hd;clear hl hd HK hkp
      go_wp2_with (first
       |(go_at_call 128;(with_reducible refine(zfj _ false _ HL.out).mono ?_);rintro e w' ⟨rfl,hw⟩;obtain rfl:=hw.symm;clear hw)
       |(go_at_call 129;(with_reducible refine(zm2 _ false _ HD.out).mono ?_);rintro e w' ⟨rfl,hw⟩;obtain rfl:=hw.symm;clear hw))
      go_ret;exact⟨zfv (congrArg _ hq.out),rfl⟩
     ·have hq:=qaa (HK.out.step hlt (by rw[decide_eq_false hkp,zg8,hl,hd];rfl))
      have HL:=qaa hl;have HD:=qaa hd;clear hl hd HK hkp
      go_wp2_with (first
       |(go_at_call 128;(with_reducible refine(zfj _ false _ HL.out).mono ?_);rintro e w' ⟨rfl,hw⟩;obtain rfl:=hw.symm;clear hw)
       |(go_at_call 129;(with_reducible refine(zm2 _ true _ HD.out).mono ?_);rintro e w' ⟨rfl,hw⟩;obtain rfl:=hw.symm;clear hw))
      go_round
      case rel=>exact⟨k+1,hq.out,by go_num⟩
      case measure=>simp[intOf];omega
   ·have hq:=qaa (HK.out.step hlt (by
     cases decide (k=p)
     ·rw[zg8,hl];rfl
     ·exact hl))
    have HL:=qaa hl;clear hl HK
    go_wp2_with (go_at_call 128;(with_reducible refine(zfj _ true _ HL.out).mono ?_);rintro e w' ⟨rfl,hw⟩;obtain rfl:=hw.symm;clear hw)
    go_round
    case rel=>exact⟨k+1,hq.out,by go_num⟩
    case measure=>simp[intOf];omega
  ·have hlt':¬(k:Int)<(s.size:Int):=U
   have hq:=qaa (HK.out.fin hlt);clear HK;go_wp2;go_ret;exact⟨zfv (congrArg _ hq.out),rfl⟩
def SkpIs (o:Nat)(p:Nat)(w:World)(e:Ending)(w':World):Prop:=e=.returned (je jd ((p+o:Nat):Int))/\Below w.heap.size w w'
theorem SkpIs.mk {o:Nat}{x:Int}(h1:x=((p+o:Nat):Int))(hb:Below w.heap.size w w'):SkpIs o p w (.returned (je jd x)) w':=by
 subst h1;exact⟨rfl,hb⟩
theorem zln (s:ByteArray)(k:Nat):bts (s.extract k s.size)=(bts s).drop k:=by
 rw[zby,List.take_of_length_le (by rw[qa2,zaj];omega)]
theorem zze (s:ByteArray)(p:Nat)(w:World)(hs:s.size<=2000000)(hp:p<=s.size) :
  Calls qab 74 #[jh s,je jd (p:Int)] w (SkpIs (skipL ((bts s).drop p)).1 p w):=by
 obtain⟨o,hx⟩:∃o,(skipL ((bts s).drop p)).1=o:=⟨_,rfl⟩;rw[hx];have HX:=qaa hx;clear hx;go_enter Tryz.func74,Tryz.ntmps74;go_wp2
 go_loopw [1,5] (fun c _ wx=>∃k:Nat,k<=s.size/\c=je jd k/\k+(skipL ((bts s).drop k)).1=p+o/\Below w.heap.size w wx) (fun c _ _=>s.size-(intOf c).toNat)
 case atStart=>exact⟨p,hp,rfl,by rw[HX.out],qaf _ _⟩
 case round=>
  obtain⟨k,hk,rfl,h1,hb⟩:=hrel;have H1:=qaa h1;have HB:=qaa hb;clear h1 hb;by_cases hlt:k<s.size
  ·have hd:=zas s k hlt
   by_cases hsp:s[k].toNat=32∨s[k].toNat=9∨s[k].toNat=10∨s[k].toNat=13
   ·have hq:=zbf (r:=(bts s).drop (k+1)) hsp
    rw[<-hd] at hq;have HQ:Hid ((skipL ((bts s).drop k)).1=(skipL ((bts s).drop (k+1))).1+1):=qaa (by rw[hq]);clear hd hq;rcases hsp with h|h|h|h
    all_goals
     go_wp2;go_roundw
     case rel=>exact⟨k+1,U,by go_num,by have:=H1.out;rw[HQ.out] at this;omega,HB.out⟩
     case measure=>simp[intOf];omega
   ·have e1:=zav (d:=s[k].toNat) (k:=32) U
    have e2:=zav (d:=s[k].toNat) (k:=9) U;have e3:=zav (d:=s[k].toNat) (k:=10) U;have e4:=zav (d:=s[k].toNat) (k:=13) U;by_cases h35:s[k].toNat=35
    ·rw[h35] at hd
     have hcd:comL ((bts s).drop k)=(comL ((bts s).drop (k+1))).map (· + 1):=by rw[hd,zb7 ja]
     have ksl:∀w,(Instr.slice 9 (jh s) (some (je jd (k:Int))) none none).run qab w=.ok (jh (s.extract k s.size)) w:=fun w=>run_slice_string_l (P:=qab) (w:=w) 9 s qba .i64 (k:Int) U U
     have hbt:=zln s k;have hzt:(s.extract k s.size).size<=2000000:=by rw[ByteArray.size_extract];omega
     generalize s.extract k s.size=tl at ksl hbt hzt;cases hc:comL ((bts s).drop (k+1)) with
     |none=>
      have hR:∀w,Calls qab 99 #[jh tl,jh nl2] w fun e w'=>e=.returned (je jd (-1))/\Below w.heap.size w w':=fun w=>by
       have h:=zhr tl w hzt;unfold ComIs at h;rw[hbt,hcd,hc] at h;exact h
      have hq:(k:Int)=((p+o:Nat):Int):=by
       have h2:=zew hc;rw[<-hd] at h2;have h3:=H1.out;rw[h2] at h3;have h4:k+0=p+o:=h3;omega
      have HR:=qaa hR;have HQ:=qaa hq;unfold nl2 at HR;clear hR hq hd hcd hc hsp
      go_wp2_with (go_at_call 99;(with_reducible refine(HR.out _).mono ?_);rintro e w' ⟨rfl,hb2⟩)
      go_ret;exact SkpIs.mk HQ.out (HB.out.trans (hb2.mono HB.out.size))
     |some m=>
      have hR:∀w,Calls qab 99 #[jh tl,jh nl2] w fun e w'=>e=.returned (je jd ((m:Int)+1))/\Below w.heap.size w w':=fun w=>by
       have h:=zhr tl w hzt;unfold ComIs at h;rw[hbt,hcd,hc] at h;exact h
      have hm:=zis _ _ hc;rw[qa2,zaj] at hm;have h2:=zd3 hc;rw[<-hd,List.drop_drop] at h2;have h3:(skipL ((bts s).drop k)).1=(skipL ((bts s).drop (k+1+m))).1+(m+1):=by rw[h2]
      have h4:k+(m+1)+(skipL ((bts s).drop (k+(m+1)))).1=p+o:=by
       have h5:=H1.out;rw[h3] at h5;rw[show k+(m+1)=k+1+m by omega];omega
      have HR:=qaa hR;have HQ:=qaa h4;have n0:¬(m:Int)+1<0:=U
      unfold nl2 at HR;clear hR h2 h3 h4 hd hcd hc hsp
      go_wp2_with (go_at_call 99;(with_reducible refine(HR.out _).mono ?_);rintro e w' ⟨rfl,hb2⟩)
      have HB2:=qaa hb2;clear hb2;go_roundw
      case rel=>exact⟨k+(m+1),U,by go_num,HQ.out,HB.out.trans (HB2.out.mono HB.out.size)⟩
      case measure=>simp[intOf];omega
    ·have hq:=zbg (r:=(bts s).drop (k+1)) hsp h35
     rw[<-hd] at hq;have hkn:(k:Int)=((p+o:Nat):Int):=by have:=H1.out;rw[hq] at this;have h4:k+0=p+o:=this;omega
     have e5:=zav (d:=s[k].toNat) (k:=35) U;have HK:=qaa hkn;clear hd hq hsp hkn;go_wp2;go_ret;exact SkpIs.mk HK.out HB.out
  ·have hq:skipL ((bts s).drop k)=(0,true):=by rw[qay (by rw[zaj];omega)];exact zc5
   have hkn:(k:Int)=((p+o:Nat):Int):=by have:=H1.out;rw[hq] at this;have h4:k+0=p+o:=this;omega
   have HK:=qaa hkn;clear hq hkn;go_wp2;go_ret;exact SkpIs.mk HK.out HB.out
theorem zq2:∀(l:List Nat) (f:Bool),allF f l=decide (idL f l=l.length)
 | [],_=>rfl
 |c::r,f=>by
  cases h:letB c f
  ·rw[zoy h,zex h];simp
  ·rw[zfe h,zbu h,zq2 r false];simp
theorem zuw (l:List Nat):nameB l=decide (0<idL true l/\idL true l=l.length):=by
 unfold nameB;cases l with
 |nil=>rfl
 |cons c r=>
  rw[zq2];have:(c::r).length=r.length+1:=rfl;by_cases h:idL true (c::r)=(c::r).length
  ·rw[decide_eq_true h,decide_eq_true ⟨U,h⟩];rfl
  ·rw[decide_eq_false h,decide_eq_false (fun e=>h e.2)];rfl
theorem zux (s:ByteArray)(w:World)(hs:s.size<=2000000) :
  Calls qab 91 #[jh s] w fun e w'=>e=.returned (ji (nameB (bts s)))/\w'=w:=by
 obtain⟨n,hn⟩:∃n,idL true (bts s)=n:=⟨_,rfl⟩;have hW:∀w,Calls qab 102 #[jh s,je jd 0] w fun e w'=>e=.returned (je jd (n:Int))/\w'=w:=fun w=>by
  have h:=zlm s 0 w hs (Nat.zero_le _);rw[List.drop_zero,hn,Nat.zero_add] at h;exact h
 have hq:=zuw (bts s);rw[hn,zaj] at hq;have HW:=qaa hW;have HQ:=qaa hq;clear hW hq hn;by_cases h0:0<n
 ·have h0':(0:Int)<(n:Int):=U
  by_cases hz:n=s.size
  ·have e1:((n:Int) == (s.size:Int))=true:=by rw[beq_iff_eq];omega
   have hr:=qaa (HQ.out.trans (decide_eq_true ⟨h0,hz⟩));clear hz;go_enter Tryz.func91,Tryz.ntmps91
   go_wp2_with (go_at_call 102;(with_reducible refine(HW.out _).mono ?_);rintro e w' ⟨rfl,hw⟩;obtain rfl:=hw.symm;clear hw)
   go_ret;exact⟨zap hr.out.symm,rfl⟩
  ·have e1:=zav (d:=n) (k:=(s.size:Int)) U
   have hr:=qaa (HQ.out.trans (decide_eq_false (fun e=>hz e.2)));clear hz;go_enter Tryz.func91,Tryz.ntmps91
   go_wp2_with (go_at_call 102;(with_reducible refine(HW.out _).mono ?_);rintro e w' ⟨rfl,hw⟩;obtain rfl:=hw.symm;clear hw)
   go_ret;exact⟨zap hr.out.symm,rfl⟩
 ·have h0':¬(0:Int)<(n:Int):=U
  have hr:=qaa (HQ.out.trans (decide_eq_false (fun e=>h0 e.1)));clear h0;go_enter Tryz.func91,Tryz.ntmps91
  go_wp2_with (go_at_call 102;(with_reducible refine(HW.out _).mono ?_);rintro e w' ⟨rfl,hw⟩;obtain rfl:=hw.symm;clear hw)
  go_ret;exact⟨zap hr.out.symm,rfl⟩
end
section
def sgL:List (List Nat):=[60,45]::sigs.map fun x=>[x]
def sgS (i:Nat):ByteArray:=strOf (sgL.getD i [])
theorem z6e:∀x ∈ sgL,∀y ∈ x,y<256:=ja
theorem z3t (i:Nat)(h:i<10):bts (sgS i)=sgL.getD i []:=by
 refine zf7 _ ?_;have:sgL.getD i [] ∈ sgL:=by
  rw[qcg,qae (by exact h)];exact List.getElem_mem _
 exact z6e _ this
def prF (n:Nat):List (List Nat)->List Nat->Option Nat
 | [],_=>none
 |x::q,l=>if x.isPrefixOf l then some n else prF (n+1) q l
theorem zo7 {x l:List Nat}{q:List (List Nat)}(h:x.isPrefixOf l=true):prF n (x::q) l=some n:=by
 show(if x.isPrefixOf l then some n else prF (n+1) q l)=_;rw[if_pos h]
theorem zuy {x l:List Nat}{q:List (List Nat)}(h:x.isPrefixOf l=false):prF n (x::q) l=prF (n+1) q l:=by
 show(if x.isPrefixOf l then some n else prF (n+1) q l)=_;rw[h];rfl
theorem zuz:∀(q:List Nat) (n c:Nat) (r:List Nat),prF n (q.map fun x=>[x]) (c::r)=idxL n q c
 | [],_,_,_=>rfl
 |x::q,n,c,r=>by
  rw[qb2];by_cases h:x=c
  ·rw[zh8 h,zo7 (by subst h;simp[List.isPrefixOf])]
  ·rw[zle h,zuy (by simp[List.isPrefixOf];exact h),zuz q]
theorem zu0 (c:Nat)(r:List Nat):prF 2 sgL (c::r)=if c=60/\r.head?=some 45 then some 2 else signK c:=by
 unfold sgL;by_cases h:c=60/\r.head?=some 45
 ·obtain⟨rfl,hr⟩:=h
  rw[if_pos ⟨rfl,hr⟩,zo7];cases r with
  |nil=>cases hr
  |cons d r=>
         have:d=45:=Option.some.inj hr;subst this;rfl
 ·rw[if_neg h,zuy,zuz]
  ·rfl
  ·cases r with
   |nil=>simp[List.isPrefixOf]
   |cons d r=>
    simp[List.isPrefixOf];intro h1 h2;exact h ⟨h1.symm,by rw[<-h2];rfl⟩
theorem z3u (j:Nat)(h:j<10):(sgL.getD j []).length=if j=0 then 2 else 1:=by
 rcases(by omega:j=0∨j=1∨j=2∨j=3∨j=4∨j=5∨j=6∨j=7∨j=8∨j=9) with rfl|rfl|rfl|rfl|rfl|rfl|rfl|rfl|rfl|rfl<;>rfl
theorem zzf (j:Nat)(h:j<10):sgL.drop j=sgL.getD j []::sgL.drop (j+1):=by
 rw[qcg,qae (by exact h)];exact List.drop_eq_getElem_cons (by exact h)
theorem zdb (s p:ByteArray):Lib.hasPrefix s.data.toList p.data.toList=(bts p).isPrefixOf (bts s):=by
 unfold Lib.hasPrefix bts;generalize s.data.toList=a;generalize p.data.toList=b
 induction b generalizing a with
 |nil=>rfl
 |cons x b ih=>
  cases a with
  |nil=>rfl
  |cons y a=>
   simp only[qb2,List.isPrefixOf];rw[ih a];congr 1;rw[Bool.eq_iff_iff,beq_iff_eq,beq_iff_eq,qfa]
end
section
open Go.RowKit
def SignsAt (w:World):Prop:=∀i,i<10->w.cell? ⟨1,i,none⟩=some (jh (sgS i))
theorem SignsAt.kept (h:SignsAt w)(hb:Below n w w')(hn:w.heap.size<=n):SignsAt w':=fun i hi=>by
 have:=zai (h i hi);rw[(bcell hb).1 _ _ U];exact h i hi
def sgA:Array Value:=((List.range 10).map fun i=>Value.string (sgS i)).toArray
theorem z6f (i:Nat)(h:i<10):sgA[i]?=some (jh (sgS i)):=by
 unfold sgA;rw[List.getElem?_toArray,List.getElem?_map,List.getElem?_range h];rfl
theorem z3v:#[Value.string (sgS 0),Value.string (sgS 1),Value.string (sgS 2),Value.string (sgS 3),Value.string (sgS 4),Value.string (sgS 5),Value.string (sgS 6),Value.string (sgS 7),Value.string (sgS 8),Value.string (sgS 9)]=sgA:=rfl
theorem zu1 (w:World)(j:Nat)(h:j<10):(Instr.index 162 (.agg sgA) (je jd (j:Int))).run qab w=.ok (jh (sgS j)) w:=by
 have h1:=z6f j h;have h2:(0:Int)<=(j:Int)/\(j:Int)<10:=U
 simp[Instr.index,run_underlying Tryz.underlying162,asIntOf,h2,h,Go.part,go_sem,qfw,qf3,h1]
end
