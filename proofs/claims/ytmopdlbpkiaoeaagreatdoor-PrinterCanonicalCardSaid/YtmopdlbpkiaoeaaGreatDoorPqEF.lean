/- The contracts of Form and of the reference's Form: the form of every byte. The walk of the law EscapePlain, given that the fixed examples are as documented. The -/
import Derived.Below
import Derived.Lib.BufferRead
import Derived.Lib.Builder
import Derived.Shelf.Strings.BuilderX
import Derived.Lib.AppendStr
import Derived.Laws.Externs
import Derived.Shelf.Strings.Builder1
import Derived.Test.YtmopdlbpkiaoeaaGreatDoorPqE
import Derived.Test.YtmopdlbpkiaoeaaGreatDoorPqG
set_option maxRecDepth 100000
set_option maxHeartbeats 2000000
open Go.Value renaming int->je, slice->jf, string->jh, bool->ji, pointer->jj, tuple->jk
namespace Go.Proofs.YtmopdlbpkiaoeaaGreatDoor
open Go.Lib renaming hid->qaa
open Go.Lib.BuilderAt renaming lt->qei
open Go.Proofs.Tryz renaming prog->qab, underlying5->qcp, underlying70->qdr, underlying71->qbj, underlying9->qba
open Go.RowKit.Below renaming refl->qaf
open Nat renaming le_refl->qac
open Go.RowKit
variable {b:Nat}{w w':World}
def FormIs (c:Nat)(cl:Bool)(w:World)(e:Ending)(w':World):Prop:=e=.returned (jh (strOf (formL c cl)))/\Below w.heap.size w w'
theorem FormIs.mk {c:Nat}{cl:Bool}{s:ByteArray}{l:List Nat}(h:formL c cl=l)(hs:s=strOf l)(hb:Below w.heap.size w w'):FormIs c cl w (.returned (jh s)) w':=by
 unfold FormIs;rw[h,hs];exact⟨rfl,hb⟩
theorem conv2 (w:World)(x y:Int)(hx:0<=x/\x<256)(hy:0<=y/\y<256) :
  (convert 71 9 (jf (some ⟨w.heap.size,0,none⟩) 2 2)).run qab (w.alloc (.cells #[je .u8 x,je .u8 y] 5))=.ok (jh (strOf [x.toNat,y.toNat])) (w.alloc (.cells #[je .u8 x,je .u8 y] 5)):=by
 refine run_convert_bytes_back _ _ _ 5 ⟨w.heap.size,0,none⟩ 2 [UInt8.ofNat x.toNat,UInt8.ofNat y.toNat] qbj qcp qba (fun j hj=>?_)
 match j,hj with
 |0,_=>simp[Addr.add];omega
 |1,_=>simp[Addr.add];omega
theorem conv4 (w:World)(x y z u:Int)(hx:0<=x/\x<256)(hy:0<=y/\y<256)(hz:0<=z/\z<256)(hu:0<=u/\u<256) :
  (convert 71 9 (jf (some ⟨w.heap.size,0,none⟩) 4 4)).run qab (w.alloc (.cells #[je .u8 x,je .u8 y,je .u8 z,je .u8 u] 5))=.ok (jh (strOf [x.toNat,y.toNat,z.toNat,u.toNat])) (w.alloc (.cells #[je .u8 x,je .u8 y,je .u8 z,je .u8 u] 5)):=by
 refine run_convert_bytes_back _ _ _ 5 ⟨w.heap.size,0,none⟩ 4 [UInt8.ofNat x.toNat,UInt8.ofNat y.toNat,UInt8.ofNat z.toNat,UInt8.ofNat u.toNat] qbj qcp qba (fun j hj=>?_)
 match j,hj with
 |0,_=>simp[Addr.add];omega
 |1,_=>simp[Addr.add];omega
 |2,_=>simp[Addr.add];omega
 |3,_=>simp[Addr.add];omega
theorem conv1 (w:World)(x:Int)(hx:0<=x/\x<256) :
  (convert 71 9 (jf (some ⟨w.heap.size,0,none⟩) 1 1)).run qab (w.alloc (.cells #[je .u8 x] 5))=.ok (jh (strOf [x.toNat])) (w.alloc (.cells #[je .u8 x] 5)):=by
 refine run_convert_bytes_back _ _ _ 5 ⟨w.heap.size,0,none⟩ 1 [UInt8.ofNat x.toNat] qbj qcp qba (fun j hj=>?_)
 match j,hj with
 |0,_=>simp[Addr.add];omega
theorem yacr (c:Nat)(cl:Bool)(h1:c≠10/\c≠13/\c≠9)(_h2:c≠92/\c≠91/\c≠93)(_h3:c≠39)(h4:c<32∨(127<=c/\c<=191)) :
  formL c cl=[92,48+c/64,48+c/8%8,48+c%8]:=by
 unfold formL;rw[if_neg h1.1,if_neg h1.2.1,if_neg h1.2.2,if_neg U,if_pos U]
theorem yadn (c:Nat)(cl:Bool)(h1:c≠10/\c≠13/\c≠9)(h2:c≠92/\c≠91/\c≠93/\c≠39/\c≠45)(h4:¬(c<32∨(127<=c/\c<=191))) :
  formL c cl=[c]:=by
 unfold formL;rw[if_neg h1.1,if_neg h1.2.1,if_neg h1.2.2,if_neg U,if_neg U]
theorem yac7 (c:Int)(cl:Bool)(w:World)(h0:0<=c)(h1:c<256) :
  Calls qab 68 #[je .u8 c,ji cl] w (FormIs c.toNat cl w):=by
 have k1:=conv1 w c ⟨h0,h1⟩;have k2:=conv2 w 92 c U ⟨h0,h1⟩;by_cases hs:c=10∨c=13∨c=9∨c=92∨c=91∨c=93∨c=39∨c=45
 ·have k4:=conv4 w 92 48 53 53 U U U U
  rcases hs with rfl|rfl|rfl|rfl|rfl|rfl|rfl|rfl<;>cases cl
  all_goals
   go_enter Tryz.func68,Tryz.ntmps68;go_wp2;go_ret
   first
    |exact FormIs.mk rfl rfl (qaf _ _)
    |exact FormIs.mk rfl rfl ((qaf _ _).alloc (qac _) _)
 ·obtain⟨a1,a2,a3,a4,a5,a6,a7,a8⟩:c≠10/\c≠13/\c≠9/\c≠92/\c≠91/\c≠93/\c≠39/\c≠45:=U
  have b1:=zae a1;have b2:=zae a2;have b3:=zae a3;have b4:=zae a4;have b5:=zae a5;have b6:=zae a6;have b7:=zae a7;have b8:=zae a8;have k4:=conv4 w 92 (48+c/64) (48+c/8%8) (48+c%8) U U U U;by_cases h32:c<32∨(127<=c/\c<=191)
  ·have hf:=qaa (yacr c.toNat cl U U U U)
   have he:strOf [(92:Int).toNat,(48+c/64).toNat,(48+c/8%8).toNat,(48+c%8).toNat]=strOf [92,48+c.toNat/64,48+c.toNat/8%8,48+c.toNat%8]:=by
    congr 1;simp;omega
   have HE:=qaa he;clear hs a1 a2 a3 a4 a5 a6 a7 a8 he;rcases h32 with h|⟨h,h'⟩<;>cases cl
   all_goals
    go_enter Tryz.func68,Tryz.ntmps68;go_wp2;go_ret;exact FormIs.mk hf.out HE.out ((qaf _ _).alloc (qac _) _)
  ·have hf:=qaa (yadn c.toNat cl U U U)
   have g1:¬c<32:=U
   clear hs a1 a2 a3 a4 a5 a6 a7 a8;by_cases g2:127<=c
   ·have g3:¬c<=191:=U
    cases cl
    all_goals
     go_enter Tryz.func68,Tryz.ntmps68;go_wp2;go_ret;exact FormIs.mk hf.out rfl ((qaf _ _).alloc (qac _) _)
   ·cases cl
    all_goals
     go_enter Tryz.func68,Tryz.ntmps68;go_wp2;go_ret;exact FormIs.mk hf.out rfl ((qaf _ _).alloc (qac _) _)
theorem yado (c:Int)(cl:Bool)(w:World)(h0:0<=c)(h1:c<256) :
  Calls qab 48 #[je .u8 c,ji cl] w (FormIs c.toNat cl w):=by
 have k1:=conv1 w c ⟨h0,h1⟩;have k2:=conv2 w 92 c U ⟨h0,h1⟩;by_cases hs:c=10∨c=13∨c=9∨c=92∨c=91∨c=93∨c=39∨c=45
 ·have k4:=conv4 w 92 48 53 53 U U U U
  rcases hs with rfl|rfl|rfl|rfl|rfl|rfl|rfl|rfl<;>cases cl
  all_goals
   go_enter Tryz.func48,Tryz.ntmps48;go_wp2;go_ret
   first
    |exact FormIs.mk rfl rfl (qaf _ _)
    |exact FormIs.mk rfl rfl ((qaf _ _).alloc (qac _) _)
 ·obtain⟨a1,a2,a3,a4,a5,a6,a7,a8⟩:c≠10/\c≠13/\c≠9/\c≠92/\c≠91/\c≠93/\c≠39/\c≠45:=U
  have b1:=zae a1;have b2:=zae a2;have b3:=zae a3;have b4:=zae a4;have b5:=zae a5;have b6:=zae a6;have b7:=zae a7;have b8:=zae a8;have k4:=conv4 w 92 (48+c/64) (48+c/8%8) (48+c%8) U U U U;by_cases h32:c<32∨(127<=c/\c<=191)
  ·have hf:=qaa (yacr c.toNat cl U U U U)
   have he:strOf [(92:Int).toNat,(48+c/64).toNat,(48+c/8%8).toNat,(48+c%8).toNat]=strOf [92,48+c.toNat/64,48+c.toNat/8%8,48+c.toNat%8]:=by
    congr 1;simp;omega
   have HE:=qaa he;clear hs a1 a2 a3 a4 a5 a6 a7 a8 he;rcases h32 with h|⟨h,h'⟩<;>cases cl
   all_goals
    go_enter Tryz.func48,Tryz.ntmps48;go_wp2;go_ret;exact FormIs.mk hf.out HE.out ((qaf _ _).alloc (qac _) _)
  ·have hf:=qaa (yadn c.toNat cl U U U)
   have g1:¬c<32:=U
   clear hs a1 a2 a3 a4 a5 a6 a7 a8;by_cases g2:127<=c
   ·have g3:¬c<=191:=U
    cases cl
    all_goals
     go_enter Tryz.func48,Tryz.ntmps48;go_wp2;go_ret;exact FormIs.mk hf.out rfl ((qaf _ _).alloc (qac _) _)
   ·cases cl
    all_goals
     go_enter Tryz.func48,Tryz.ntmps48;go_wp2;go_ret;exact FormIs.mk hf.out rfl ((qaf _ _).alloc (qac _) _)
theorem yab1:(qab.info? 73).map (fun i=>i.size)=some 2:=jb
theorem yaei:liesAt qab qab.depth 73 (2/qab.cellsOf 73) 0 73 1=true:=jb
theorem yaam (b:Nat)(w:World)(h0:w.cell? ⟨b,0,none⟩=some (.pointer (some ⟨b,0,none⟩))) :
  Calls qab 52 #[jj (some ⟨b,0,none⟩)] w fun e w'=>e=.returned (jk #[])/\w'=w:=by
 obtain⟨j,hj,hjs⟩:=Option.map_eq_some_iff.1 yab1;have k1:=Lib.run_neq_ptr_same (P:=qab) w ⟨b,0,none⟩ qdr hj;go_enter Tryz.func52,Tryz.ntmps52;go_wp2
 go_end0
 exact⟨rfl,rfl⟩
theorem z97 (b:Nat)(w:World)(h0:w.cell? ⟨b,0,none⟩=some (.pointer none))(hsh:w.shape? b=some (73,2))(hfz:w.frozen? ⟨b,0,none⟩=false) :
  Calls qab 52 #[jj (some ⟨b,0,none⟩)] w fun e w'=>e=.returned (jk #[])/\w'=w.setCell ⟨b,0,none⟩ (jj (some ⟨b,0,none⟩)):=by
 obtain⟨j,hj,hjs⟩:=Option.map_eq_some_iff.1 yab1;have k1:=Lib.run_to_unsafe (P:=qab) w ⟨b,0,none⟩ qdr Tryz.underlying143 hj (by rw[hjs];decide) hsh (Nat.zero_lt_succ 1);have k2:=Lib.run_from_unsafe (P:=qab) w ⟨b,0,none⟩ Tryz.underlying143 qdr hj hsh yaei;have k3:=Lib.run_noEscape (P:=qab) w (jj (some ⟨b,0,none⟩));have k4:=run_callFunc_extern (P:=qab) Tryz.func85 jb jb jb (e:=Extern.AbiNoEscape.same) jb #[jj (some ⟨b,0,none⟩)] w;rw[k3] at k4;go_enter Tryz.func52,Tryz.ntmps52;go_wp2
 go_end0
 exact⟨rfl,rfl⟩
def Bld (B b:Nat)(l:List Nat)(w:World):Prop:=Lib.IsBuilder 73 5 B b (u8s l) w
theorem z98 (s:ByteArray):Lib.strCells s=u8s (bts s):=by
 unfold Lib.strCells u8s bts;rw[List.map_map];rfl
theorem yaa2 (B b:Nat)(l:List Nat)(w:World)(h:Bld B b l w) :
  Calls qab 52 #[jj (some ⟨b,0,none⟩)] w fun e w'=>e=.returned (jk #[])/\Lib.BuilderAt 73 5 B b (jj (some ⟨b,0,none⟩)) (u8s l) w'/\Below B w w':=by
 rcases h with h|h
 ·refine(z97 b w h.cell0 h.shape h.frozen0).mono ?_
  rintro e w' ⟨rfl,rfl⟩;exact⟨rfl,h.used _,(qaf B w).setCell (p:=⟨b,0,none⟩) h.1 _⟩
 ·refine(yaam b w h.cell0).mono ?_
  rintro e w' ⟨rfl,rfl⟩;exact⟨rfl,h,qaf B _⟩
theorem yaac {p v:Value}(hbk:w.heap[b]?=some (.cells #[p,v] 73 (0,0)))(hne:v.ownBlock≠some b)(hg:w.grownBy w' v.ownBlock) :
  w'.heap[b]?=some (.cells #[p,v] 73 (0,0))/\w'.cell? ⟨b,1,none⟩=some v/\w'.frozen? ⟨b,1,none⟩=false:=by
 have hlt:b<w.heap.size:=by
  rcases Nat.lt_or_ge b w.heap.size with h'|h'
  ·exact h'
  ·rw[Array.getElem?_eq_none h'] at hbk;cases hbk
 have h2:w'.heap[b]?=some (.cells #[p,v] 73 (0,0)):=by rw[hg.block b hlt (fun e=>hne e.symm)];exact hbk
 exact⟨h2,by rw[Lib.cell_of_heap h2];rfl,Lib.frozen_of_heap h2 1⟩
theorem heap_alloc {x:Obj}(o:Obj)(h:w.heap[b]?=some x):(w.alloc o).heap[b]?=some x:=by
 rw[Lib.alloc_old w o b (by
  rcases Nat.lt_or_ge b w.heap.size with h'|h'
  ·exact h'
  ·rw[Array.getElem?_eq_none h'] at h;cases h)]
 exact h
theorem z9q {B:Nat}{t:TypeId}{v:Value}{n:Nat}{xs:List Value}(h:w.ownsRow B t 1 v n xs):∃a cap,v=jf a n cap:=by
 rcases h.2 with⟨h1,h2⟩|⟨g,cap,cur,h1,-⟩
 ·exact⟨none,0,by rw[h1,h2]⟩
 ·exact⟨_,cap,h1⟩
theorem yac8 (B b:Nat)(l:List Nat)(c:Nat)(w:World)(h:Bld B b l w)(hl:l.length<=2000000)(hB:B<=w.heap.size) :
  Calls qab 29 #[jj (some ⟨b,0,none⟩),je .u8 (c:Int)] w fun e w'=>e=.returned .nilIface/\Bld B b (l++[c]) w'/\Below B w w':=by
 obtain⟨i0,hi0,hz0,hz1,hz2⟩:=info_parts infoU8;have H:=qaa h;clear h;go_enter Tryz.func29,Tryz.ntmps29
 go_wp2_with (first
  |(go_at_call 52;(with_reducible refine(yaa2 B b l _ H.out).mono ?_);rintro e w1 ⟨rfl,h1,hb1⟩;obtain⟨hBb,v,hbk,hown,hne⟩:=h1;have hz1':=hb1.size;have hlt:=qei ⟨hBb,v,hbk,hown,hne⟩;have c1:w1.cell? ⟨b,1,none⟩=some v:=by (rw[Lib.cell_of_heap hbk];rfl))
  |(at_builtin;refine wpList_append_own _ rfl _ _ 71 rfl B 5 i0 (je .u8 0) 1 1 qbj hi0 hz0 hz1 hz2 rfl ja _ _ _ rfl (hown.alloc _) ⟨w1.heap.size,0,none⟩ 1 1 [je .u8 (c:Int)] rfl rfl (zat _ _ _) (by simp[Value.oneCell']) (by rw[zg6];unfold maxLen;omega) (by rw[zg6];omega) (by simp;omega) ?_;intro v' w2 hown' hgrow _;obtain⟨ao,cap,rfl⟩:=z9q hown';obtain⟨hb2,d1,f1⟩:=yaac (heap_alloc _ hbk) hne hgrow))
 go_ret;refine⟨rfl,Or.inr (Lib.BuilderAt.put hBb hb2 ?_ ja),((hb1.alloc U _).grown hgrow (by simp;omega) (fun k hk=>(hown.lt k hk).1)).setCell (p:=⟨b,1,none⟩) hBb _⟩;rw[zg6 l,zg6 (l++[c]),List.length_append,zqx];rw[zg6 l] at hown';exact hown'
theorem yab2 (B b:Nat)(l:List Nat)(s:ByteArray)(w:World)(h:Bld B b l w)(hl:l.length+s.size<=2000000)(hB:B<=w.heap.size) :
  Calls qab 40 #[jj (some ⟨b,0,none⟩),jh s] w fun e w'=>e=.returned (jk #[je .i64 (s.size:Int),.nilIface])/\Bld B b (l++bts s) w'/\Below B w w':=by
 obtain⟨i0,hi0,hz0,hz1,hz2⟩:=info_parts infoU8;have H:=qaa h;clear h;go_enter Tryz.func40,Tryz.ntmps40
 go_wp2_with (first
  |(go_at_call 52;(with_reducible refine(yaa2 B b l _ H.out).mono ?_);rintro e w1 ⟨rfl,h1,hb1⟩;obtain⟨hBb,v,hbk,hown,hne⟩:=h1;have hz1':=hb1.size;have hlt:=qei ⟨hBb,v,hbk,hown,hne⟩;have c1:w1.cell? ⟨b,1,none⟩=some v:=by (rw[Lib.cell_of_heap hbk];rfl))
  |(at_builtin;refine Lib.wpList_append_own_string _ rfl _ _ 71 9 rfl B 5 i0 qbj qba hi0 hz0 hz1 hz2 _ _ _ rfl hown s rfl (by rw[zg6];unfold maxLen;omega) (by rw[zg6];omega) U ?_;intro v' w2 hown' hgrow _;obtain⟨ao,cap,rfl⟩:=z9q hown';obtain⟨hb2,d1,f1⟩:=yaac hbk hne hgrow))
 go_ret2
 refine⟨rfl,Or.inr (Lib.BuilderAt.put hBb hb2 ?_ ja),(hb1.grown hgrow U (fun k hk=>(hown.lt k hk).1)).setCell (p:=⟨b,1,none⟩) hBb _⟩;rw[zg6 l,zg6 (l++bts s),List.length_append,yaa8,zaj,<-z98];rw[zg6 l] at hown';exact hown'
open Go.RowKit Go.Shelf
def yaju:Ren:=⟨fun|169=>30|n=>n,fun|70=>70|9=>9|0=>0|72=>73|37=>71|127=>103|3=>3|5=>5|n=>n,fun|n=>n⟩
theorem yakh:Go.Proofs.Lays.n169 qab yaju:={
 mixed:=jb
 f169:=Tryz.func30.trans (congrArg some jb)
 t0:=Tryz.underlying0,a0:=Tryz.isAgg0,z0:=Tryz.sizeOf0,v0:=Tryz.zeroValue0
 t3:=Tryz.underlying3,a3:=Tryz.isAgg3,z3:=Tryz.sizeOf3,v3:=Tryz.zeroValue3
 t9:=qba,a9:=Tryz.isAgg9,z9:=Tryz.sizeOf9,v9:=Tryz.zeroValue9
 t37:=qbj,a37:=Tryz.isAgg71,z37:=Tryz.sizeOf71,v37:=Tryz.zeroValue71
 t70:=qdr,a70:=Tryz.isAgg70,z70:=Tryz.sizeOf70,v70:=Tryz.zeroValue70
 t72:=Tryz.underlying73,a72:=Tryz.isAgg73,z72:=Tryz.sizeOf73,v72:=Tryz.zeroValue73
 t127:=Tryz.underlying103,a127:=Tryz.isAgg103,z127:=Tryz.sizeOf103,v127:=Tryz.zeroValue103 }
theorem yaiz:Builder.Extra qab yaju:={
 sizeBuilder:=jb
 liesBuilder:=jb
 t5:=qcp,a5:=Tryz.isAgg5,z5:=Tryz.sizeOf5,v5:=Tryz.zeroValue5
 infoByte:=jb
 cellsByte:=jb
 sizeByte:=jb
 neB5:=by decide }
theorem yaa3 (l:List Nat)(h:∀x,x ∈ l->x<256):u8s l=Lib.byteCells (l.map UInt8.ofNat):=by
 unfold u8s Lib.byteCells;rw[List.map_map];refine List.map_congr_left fun x hx=>?_
 have:=h x hx;show Value.int .u8 (x:Int)=Value.int .u8 ((UInt8.ofNat x).toNat:Int);congr 2;simp;omega
theorem yaa4 (B b:Nat)(l:List Nat)(w:World)(h:Bld B b l w)(hl:∀x,x ∈ l->x<256)(hB:B<=w.heap.size) :
  Calls qab 30 #[jj (some ⟨b,0,none⟩)] w fun e w'=>e=.returned (jh (strOf l))/\Below B w w':=by
 unfold Bld at h;rw[yaa3 l hl] at h;exact Any.Builder_String_any yakh yaiz B b (l.map UInt8.ofNat) w h hB
end Go.Proofs.YtmopdlbpkiaoeaaGreatDoor
namespace Go.Proofs.YtmopdlbpkiaoeaaGreatDoor
open Go.Lib renaming hid->qaa
open Go.Lib.BuilderAt renaming lt->qei
open Go.Proofs.Tryz renaming prog->qab, underlying5->qcp, underlying70->qdr, underlying71->qbj, underlying9->qba
open Go.RowKit.Below renaming refl->qaf
open Nat renaming le_refl->qac
open Go.RowKit
variable {b:Nat}{w w':World}
theorem yalm (c:Nat)(w:World)(h1:c<256) :
  Calls qab 48 #[je .u8 (c:Int),ji false] w fun e w'=>e=.returned (jh (strOf (formL c false)))/\Below w.heap.size w w':=yado (c:Int) false w U U
theorem yadp (l:List Nat)(v:Value)(w:World)(hv:RowAt w v (u8s l))(hl:∀x,x ∈ l->x<256)(hn:l.length<=10000) :
  Calls qab 46 #[v] w fun e w'=>e=.returned (jh (strOf (litL l)))/\Below w.heap.size w w':=by
 obtain⟨a,cap,rfl,hcs⟩:=hv;rw[zg6];have HC:=qaa hcs;have HL:=qaa hl;clear hcs hl;have HB0:=qaa (qaf w.heap.size w);go_enter Tryz.func46,Tryz.ntmps46;go_wp2
 go_loopw [3,4] (fun u c wr=>∃(k:Nat) (s:ByteArray),k<=l.length/\c=je .i64 k/\u=jh s/\s=strOf (39::z92 (l.take k))/\Below w.heap.size w wr) (fun _ c _=>(l.length-(intOf c).toNat))
 case atStart=>exact⟨0,strOf [39],Nat.zero_le _,rfl,rfl,rfl,HB0.out⟩
 case round=>
  obtain⟨k,s,hk,rfl,rfl,hs,hb⟩:=hrel;have hz:=hb.size;have hsz:s.size<=1050000:=by
   have h1:=yaaa (l.take k);rw[List.length_take] at h1;rw[hs,zb0,List.length_cons];omega
  have HS:=qaa hs;clear hs;by_cases hlt:k<l.length
  ·obtain⟨x,hx⟩:∃x,l[k]?=some x:=⟨l[k],by simp[hlt]⟩
   have hx1:=HL.out x (List.mem_of_getElem? hx);obtain⟨b,off,rfl,hcell⟩:=HC.out.resolve_left (by intro h;have:=congrArg List.length h;rw[zg6,List.length_nil] at this;omega);have hc0:=hcell k (je .u8 x) (by unfold u8s;rw[List.getElem?_map,hx];rfl);have hblk:=zai hc0;have hc1:wr.cell? ⟨b,off+k,none⟩=some (je .u8 x):=by
    rw[(bcell hb).1 b _ hblk];exact hc0
   have ht:=qaa (za3 l k _ hx);have hzf:=z9a x false;have k1:∀w,(Op.stringOp .add s (strOf (formL x false))).run qab w=.ok (jh (s++strOf (formL x false))) w:=fun w=>run_string_add_sum w _ _ (by rw[zb0];omega)
   clear hc0 hcell hx
   go_wp2_with (go_at_call 48;(with_reducible refine(yalm x _ hx1).mono ?_);rintro e w2 ⟨rfl,hb2⟩;have HB2:=qaa (hb.trans (hb2.mono hz));clear hb2)
   exact⟨⟨k+1,s++strOf (formL x false),U,by go_num,rfl,by rw[ht.out,yabx,HS.out,<-zmq];rfl,HB2.out⟩,by simp[intOf];omega⟩
  ·have e:l.take k=l:=List.take_of_length_le U
   have he:s++strOf [39]=strOf (litL l):=by rw[HS.out,e,<-zmq];rfl
   have HE:=qaa he;have k1:∀w,(Op.stringOp .add s ⟨#[39]⟩).run qab w=.ok (jh (s++⟨#[39]⟩)) w:=fun w=>run_string_add_sum w _ _ (by show s.size+1<=_;omega)
   clear e he;go_wp2;go_ret;exact⟨congrArg (fun s=>Ending.returned (jh s)) HE.out,hb⟩
theorem yacs (B b:Nat)(l:List Nat)(w:World)(h:Bld B b l w)(hl:l.length<=2000000)(hB:B<=w.heap.size) :
  Calls qab 29 #[jj (some ⟨b,0,none⟩),je .u8 39] w fun e w'=>e=.returned .nilIface/\Bld B b (l++[39]) w'/\Below B w w':=yac8 B b l 39 w h hl hB
theorem yaln (c:Nat)(w:World)(h1:c<256) :
  Calls qab 68 #[je .u8 (c:Int),ji false] w fun e w'=>e=.returned (jh (strOf (formL c false)))/\Below w.heap.size w w':=yac7 (c:Int) false w U U
theorem yag4 (B b:Nat)(l:List Nat)(c:Nat)(w:World)(hc:c<256)(h:Bld B b l w)(hl:l.length<=900000)(hB:B<=w.heap.size) :
  Calls qab 40 #[jj (some ⟨b,0,none⟩),jh (strOf (formL c false))] w fun e w'=>(∃n:Int,e=.returned (jk #[je .i64 n,.nilIface]))/\Bld B b (l++formL c false) w'/\Below B w w':=by
 have hz:=z9a c false;have h:=yab2 B b l (strOf (formL c false)) w h (by rw[zb0];omega) hB;rw[yaio c false hc] at h;exact h.mono fun e w' ⟨h1,h2,h3⟩=>⟨⟨_,h1⟩,h2,h3⟩
theorem Bld.grown {B:Nat}{l:List Nat}(h:Bld B b l w)(hb:Below w.heap.size w w'):Bld B b l w':=by
 rcases h with h|h
 ·left
  obtain⟨hB,v,hbk,hown,hne⟩:=h;have hlt:=qei ⟨hB,v,hbk,hown,hne⟩;exact⟨hB,v,by rw[hb.block b hlt];exact hbk,zab hown hb,hne⟩
 ·right
  obtain⟨hB,v,hbk,hown,hne⟩:=h;have hlt:=qei ⟨hB,v,hbk,hown,hne⟩;exact⟨hB,v,by rw[hb.block b hlt];exact hbk,zab hown hb,hne⟩
theorem yabg (l:List Nat)(v:Value)(w:World)(hv:RowAt w v (u8s l))(hl:∀x,x ∈ l->x<256)(hn:l.length<=10000) :
  Calls qab 37 #[v] w fun e w'=>e=.returned (jh (strOf (litL l)))/\Below w.heap.size w w':=by
 obtain⟨a,cap,rfl,hcs⟩:=hv;rw[zg6];have HC:=qaa hcs;have HL:=qaa hl;clear hcs hl;have h0:Bld w.heap.size w.heap.size [] (w.alloc (.cells #[jj none,jf none 0 0] 73)):=Lib.fresh_isBuilder 73 5 w;have H0:=qaa h0;clear h0;have hb0:Below w.heap.size w (w.alloc (.cells #[jj none,jf none 0 0] 73)):=(qaf _ w).alloc (qac _) _;have HB0:=qaa hb0;clear hb0;go_enter Tryz.func37,Tryz.ntmps37
 go_wp2_with (go_at_call 29;(with_reducible refine(yacs w.heap.size w.heap.size [] _ H0.out jc jc).mono ?_);rintro e w1 ⟨rfl,h1,hb1⟩;have HW:=qaa h1;have HB:=qaa (HB0.out.trans hb1);clear h1 hb1)
 go_loopw [9] (fun c wr=>∃k:Nat,k<=l.length/\c=je .i64 k/\Bld w.heap.size w.heap.size (39::z92 (l.take k)) wr/\Below w.heap.size w wr) (fun c _=>(l.length-(intOf c).toNat))
 case atStart=>exact⟨0,Nat.zero_le _,rfl,HW.out,HB.out⟩
 case round=>
  obtain⟨k,hk,rfl,hs,hb⟩:=hrel;have hz:=hb.size;by_cases hlt:k<l.length
  ·obtain⟨x,hx⟩:∃x,l[k]?=some x:=⟨l[k],by simp[hlt]⟩
   have hx1:=HL.out x (List.mem_of_getElem? hx);obtain⟨b,off,rfl,hcell⟩:=HC.out.resolve_left (by intro h;have:=congrArg List.length h;rw[zg6,List.length_nil] at this;omega);have hc0:=hcell k (je .u8 x) (by unfold u8s;rw[List.getElem?_map,hx];rfl);have hblk:=zai hc0;have hc1:wr.cell? ⟨b,off+k,none⟩=some (je .u8 x):=by
    rw[(bcell hb).1 b _ hblk];exact hc0
   have ht:=qaa (za3 l k _ hx);have hfl:(39::z92 (l.take k)).length<=900000:=by
    have h1:=yaaa (l.take k);rw[List.length_take] at h1;rw[List.length_cons];omega
   have HF:=qaa hfl;have HS:=qaa hs;clear hc0 hcell hx hfl hs
   go_wp2_with (first
    |(go_at_call 68;(with_reducible refine(yaln x _ hx1).mono ?_);rintro e w2 ⟨rfl,hb2⟩;have HS2:=qaa (Bld.grown HS.out hb2);have HB2:=qaa (hb.trans (hb2.mono hz));have hz2:=hb2.size;clear hb2)
    |(go_at_call 40;(with_reducible refine(yag4 w.heap.size w.heap.size _ x _ hx1 HS2.out HF.out U).mono ?_);rintro e w3 ⟨⟨n,rfl⟩,h3,hb3⟩;have HS3:=qaa h3;have HB3:=qaa (HB2.out.trans hb3);clear h3 hb3))
   exact⟨⟨k+1,U,by go_num,by rw[ht.out,yabx];exact HS3.out,HB3.out⟩,by simp[intOf];omega⟩
  ·have e:l.take k=l:=List.take_of_length_le U
   rw[e] at hs;have hfl:(39::z92 l).length<=2000000:=by
    have h1:=yaaa l;rw[List.length_cons];omega
   have HF:=qaa hfl;have HS:=qaa hs;have HT:=qaa (yagr l HL.out);clear e hs hfl
   go_wp2_with (first
    |(go_at_call 29;(with_reducible refine(yacs w.heap.size w.heap.size _ _ HS.out HF.out hz).mono ?_);rintro e w2 ⟨rfl,h2,hb2⟩;have HS2:=qaa h2;have HB2:=qaa (hb.trans hb2);have hz2:=hb2.size;clear h2 hb2)
    |(go_at_call 30;refine(yaa4 w.heap.size w.heap.size (litL l) _ HS2.out HT.out U).mono ?_;rintro e w3 ⟨rfl,hb3⟩;have HB3:=qaa (HB2.out.trans hb3);clear hb3))
   go_ret;exact⟨rfl,HB3.out⟩
