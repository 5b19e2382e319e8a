/- gram.checkNodes, gram.Check. -/
import Derived.Laws.EntriesVeiled
import Derived.Test.YtmopdlbpkiaoeaaGreatDoorPqGramMade
set_option maxRecDepth 100000
set_option maxHeartbeats 4000000
open Go.IntKind renaming i64->jd
open Go.Value renaming int->je, slice->jf
namespace Go.Proofs.YtmopdlbpkiaoeaaGreatDoor
open Go.Lib renaming hid->qaa
open Go.Proofs.Tryz renaming func35->qfp, ntmps35->qfj, prog->qab
open Nat renaming le_refl->qac, lt_of_lt_of_le->qaz
open Go.RowKit
theorem zoh (n:PN)(ka:Option Addr)(kc R:Nat)(w:World)(hl:n.kids.length<=9223372036854775807) :
  Calls qab 92 #[.agg #[je jd n.op,jf ka n.kids.length kc,je jd n.rule,je .u64 n.s0,je .u64 n.s1,je .u64 n.s2,je .u64 n.s3],je jd (R:Int)] w fun e w'=>e=.returned (.bool (madeB n R))/\Below w.heap.size w w':=by
 rw[zsa,zxk];exact z8k _ _ _ _ _ _ _ _ _ _ w hl
theorem ztu {ns:List PN}{R k:Nat}{n:PN}(h:ns[k]?=some n):zbv ns R k=!madeB n R:=by unfold zbv;rw[h]
theorem ztv (rv nv:Value)(rs:List PR)(ns:List PN)(w:World)(hR:RulesIn w rv rs)(hN:NodesAt w nv ns) :
  Calls qab 64 #[.agg #[rv,nv]] w (FirstIs (fbad (zbv ns rs.length) ns.length 0) zk4 10 w):=by
 have HB:=qaa (zaa w);obtain⟨-,ra,rc,rfl,-⟩:=hR;obtain⟨hl,a,ca,rfl,ha⟩:=hN;unfold maxLen at hl;go_enter Tryz.func64,Tryz.ntmps64;go_wp2
 go_loopw [8] (fun c wr=>∃k:Nat,k<=ns.length/\c=je jd k/\Below w.heap.size w wr/\w.heap.size<wr.heap.size/\wr.cell? ⟨w.heap.size,0,none⟩=some (jf ra rs.length rc)/\fbad (zbv ns rs.length) ns.length 0=fbad (zbv ns rs.length) (ns.length-k) k) (fun c _=>ns.length-(intOf c).toNat)
 case atStart=>exact⟨0,Nat.zero_le _,rfl,HB.out _,jc,jc,rfl⟩
 case round=>
  obtain⟨k,hk,rfl,hbw,hsw,b0,hf⟩:=hrel;have HF:=qaa hf;have HW:=qaa hbw;have hszw:=hbw.size;clear hf;by_cases hlt:k<ns.length
  ·obtain⟨n,hn⟩:∃r,ns[k]?=some r:=⟨_,List.getElem?_eq_getElem hlt⟩
   rcases ha with h0|⟨nb,no,rfl,hca⟩
   ·rw[h0] at hlt;exact absurd hlt (Nat.not_lt_zero _)
   obtain⟨kv,c0,c1,c2,c3,c4,c5,c6,⟨ka,kc,rfl,-⟩,cl⟩:=(hca k n hn).kept hbw (qac _);have lb:=zai c0;have k1:(k:Int)<(ns.length:Int):=U
   have hsub:ns.length-k=(ns.length-(k+1))+1:=U
   rw[hsub] at HF;have hnb:=ztu (R:=rs.length) hn;unfold maxLen at cl;have HC:=qaa (fun W=>zoh n ka kc rs.length W U);clear hsub hca hn hbw;cases hm:madeB n rs.length with
   |false=>
    rw[hm] at hnb HC;have HR:=qaa (HF.out.trans (zbn hnb));clear hnb hm
    go_wp2_with (first
     |(go_at_call 92;(with_reducible refine(HC.out _).mono ?_);rintro e w1 ⟨rfl,hb⟩;have HW1:=qaa ((HW.out.alloc hszw _).trans (hb.mono (by simp;omega)));clear hb)
     |(go_at_call 73;(with_reducible refine(zes _ _ _).mono ?_);rintro e w2 ⟨rfl,rfl⟩)
     |(go_at_call 58;(with_reducible refine(zc0 _ _ _ _).mono ?_);rintro e w2 ⟨rfl,rfl⟩))
    go_ret;exact FirstIs.hit HR.out rfl HW1.out
   |true=>
    rw[hm] at hnb HC;have HR:=qaa (HF.out.trans (zbz hnb));clear hnb hm
    go_wp2_with (go_at_call 92;(with_reducible refine(HC.out _).mono ?_);rintro e w1 ⟨rfl,hb⟩;have HW1:=qaa ((HW.out.alloc hszw _).trans (hb.mono (by simp;omega)));have hb2:=(zaa wr _).trans (hb.mono (zaa wr _).size);have b0':=(bcell hb2).1 _ 0 hsw;rw[b0] at b0';have hsw1:=qaz hsw hb2.size;clear hb hb2)
    go_roundw
    case rel=>exact⟨k+1,U,by go_num,HW1.out,hsw1,b0',HR.out⟩
    case measure=>simp[intOf];omega
  ·obtain rfl:k=ns.length:=U
   have k1:¬(ns.length:Int)<(ns.length:Int):=U
   have HR:Hid (fbad (zbv ns rs.length) ns.length 0=none):=qaa (by rw[HF.out,Nat.sub_self];rfl);clear hbw;go_wp2;go_ret;exact FirstIs.nil HR.out HW.out
def ChkIs (c:Chk)(w:World)(e:Ending)(w':World):Prop:=match c with
 |.ok=>e=.returned .nilIface/\Below w.heap.size w w'
 |.large=>e=.returned (.iface 60 (je jd 4))/\Below w.heap.size w w'
 |.order=>e=.returned (.iface 60 (je jd 10))/\Below w.heap.size w w'
 |.rules i=>PartErr zn5 10 (i:Int) w e w'
 |.nodes i=>PartErr zk4 10 (i:Int) w e w'
 |.deep i=>PartErr zk4 5 (i:Int) w e w'
def OkAt (f:Nat)(w:World)(g:Value):Prop:=∀W,Below w.heap.size w W->Calls qab f #[g] W fun e w'=>e=.returned .nilIface/\Below W.heap.size W w'
def zsb (f:Nat)(w:World)(g:Value)(c:Int):Prop:=∀W,Below w.heap.size w W->Calls qab f #[g] W fun e w'=>e=.returned (.iface 60 (je jd c))/\Below W.heap.size W w'
def zlb (f:Nat)(w:World)(g:Value)(part:ByteArray)(c p:Int):Prop:=∀W,Below w.heap.size w W->Calls qab f #[g] W (PartErr part c p W)
abbrev fnsV:Value:=.agg #[.func (.func 62) #[] #[],.func (.func 63) #[] #[],.func (.func 64) #[] #[],.func (.func 65) #[] #[],.func (.func 66) #[] #[]]
theorem z03 (ra na:Option Addr)(rn rc nn nc:Nat)(w:World)(h1:OkAt 62 w (.agg #[jf ra rn rc,jf na nn nc]))(h2:OkAt 63 w (.agg #[jf ra rn rc,jf na nn nc]))(h3:OkAt 64 w (.agg #[jf ra rn rc,jf na nn nc]))(h4:OkAt 65 w (.agg #[jf ra rn rc,jf na nn nc]))(h5:OkAt 66 w (.agg #[jf ra rn rc,jf na nn nc])) :
  Calls qab 35 #[.agg #[jf ra rn rc,jf na nn nc]] w fun e w'=>e=.returned .nilIface/\Below w.heap.size w w':=by
 unfold OkAt at h1 h2 h3 h4 h5
 skip
 have H1:=qaa h1;clear h1;have H2:=qaa h2;clear h2;have H3:=qaa h3;clear h3;have H4:=qaa h4;clear h4;have H5:=qaa h5;clear h5;have x0:∀w,(Instr.index 113 fnsV (je jd 0)).run qab w=.ok (.func (.func 62) #[] #[]) w:=fun _=>jb
 have x1:∀w,(Instr.index 113 fnsV (je jd 1)).run qab w=.ok (.func (.func 63) #[] #[]) w:=fun _=>jb
 have x2:∀w,(Instr.index 113 fnsV (je jd 2)).run qab w=.ok (.func (.func 64) #[] #[]) w:=fun _=>jb
 have x3:∀w,(Instr.index 113 fnsV (je jd 3)).run qab w=.ok (.func (.func 65) #[] #[]) w:=fun _=>jb
 have x4:∀w,(Instr.index 113 fnsV (je jd 4)).run qab w=.ok (.func (.func 66) #[] #[]) w:=fun _=>jb
 unfold fnsV at x0 x1 x2 x3 x4;go_enter qfp,qfj;go_wp2;obtain⟨W,hW⟩:∃W,((w.alloc (.cells #[jf ra rn rc,jf na nn nc] 25)).alloc (.cells #[.func (.func 62) #[] #[],.func (.func 63) #[] #[],.func (.func 64) #[] #[],.func (.func 65) #[] #[],.func (.func 66) #[] #[]] 113))=W:=⟨_,rfl⟩;have hb:Below w.heap.size w W:=by rw[<-hW];exact zbo w _ _
 have b0:W.cell? ⟨w.heap.size,0,none⟩=some (jf ra rn rc):=by rw[<-hW];simp
 have b1:W.cell? ⟨w.heap.size,1,none⟩=some (jf na nn nc):=by rw[<-hW];simp
 have hsw:w.heap.size<W.heap.size:=by rw[<-hW];simp;omega
 rw[hW];have HW:=qaa hb;clear hW hb;refine wp_loop_rounds 6 ?_;rw[rounds_succ]
 go_wp2_with (go_at_call 62;(with_reducible refine(H1.out _ HW.out).mono ?_);rintro e w1 ⟨rfl,hb⟩;replace HW:=qaa (HW.out.trans (hb.mono HW.out.size));have q0:=(bcell hb).1 _ 0 hsw;have q1:=(bcell hb).1 _ 1 hsw;rw[b0] at q0;rw[b1] at q1;replace hsw:=qaz hsw hb.size;clear hb b0 b1;have b0:=q0;have b1:=q1;clear q0 q1)
 rw[rounds_succ]
 go_wp2_with (go_at_call 63;(with_reducible refine(H2.out _ HW.out).mono ?_);rintro e w2 ⟨rfl,hb⟩;replace HW:=qaa (HW.out.trans (hb.mono HW.out.size));have q0:=(bcell hb).1 _ 0 hsw;have q1:=(bcell hb).1 _ 1 hsw;rw[b0] at q0;rw[b1] at q1;replace hsw:=qaz hsw hb.size;clear hb b0 b1;have b0:=q0;have b1:=q1;clear q0 q1)
 rw[rounds_succ]
 go_wp2_with (go_at_call 64;(with_reducible refine(H3.out _ HW.out).mono ?_);rintro e w3 ⟨rfl,hb⟩;replace HW:=qaa (HW.out.trans (hb.mono HW.out.size));have q0:=(bcell hb).1 _ 0 hsw;have q1:=(bcell hb).1 _ 1 hsw;rw[b0] at q0;rw[b1] at q1;replace hsw:=qaz hsw hb.size;clear hb b0 b1;have b0:=q0;have b1:=q1;clear q0 q1)
 rw[rounds_succ]
 go_wp2_with (go_at_call 65;(with_reducible refine(H4.out _ HW.out).mono ?_);rintro e w4 ⟨rfl,hb⟩;replace HW:=qaa (HW.out.trans (hb.mono HW.out.size));have q0:=(bcell hb).1 _ 0 hsw;have q1:=(bcell hb).1 _ 1 hsw;rw[b0] at q0;rw[b1] at q1;replace hsw:=qaz hsw hb.size;clear hb b0 b1;have b0:=q0;have b1:=q1;clear q0 q1)
 rw[rounds_succ]
 go_wp2_with (go_at_call 66;(with_reducible refine(H5.out _ HW.out).mono ?_);rintro e w5 ⟨rfl,hb⟩;replace HW:=qaa (HW.out.trans (hb.mono HW.out.size));have q0:=(bcell hb).1 _ 0 hsw;have q1:=(bcell hb).1 _ 1 hsw;rw[b0] at q0;rw[b1] at q1;replace hsw:=qaz hsw hb.size;clear hb b0 b1;have b0:=q0;have b1:=q1;clear q0 q1)
 rw[rounds_succ];go_wp2;go_ret;exact⟨rfl,HW.out⟩
theorem z04 (ra na:Option Addr)(rn rc nn nc:Nat)(c:Int)(w:World)  (he:zsb 62 w (.agg #[jf ra rn rc,jf na nn nc]) c) :
  Calls qab 35 #[.agg #[jf ra rn rc,jf na nn nc]] w fun e w'=>e=.returned (.iface 60 (je jd c))/\Below w.heap.size w w':=by
 skip
 unfold zsb at he;have HE:=qaa he;clear he;have x0:∀w,(Instr.index 113 fnsV (je jd 0)).run qab w=.ok (.func (.func 62) #[] #[]) w:=fun _=>jb
 have x1:∀w,(Instr.index 113 fnsV (je jd 1)).run qab w=.ok (.func (.func 63) #[] #[]) w:=fun _=>jb
 have x2:∀w,(Instr.index 113 fnsV (je jd 2)).run qab w=.ok (.func (.func 64) #[] #[]) w:=fun _=>jb
 have x3:∀w,(Instr.index 113 fnsV (je jd 3)).run qab w=.ok (.func (.func 65) #[] #[]) w:=fun _=>jb
 have x4:∀w,(Instr.index 113 fnsV (je jd 4)).run qab w=.ok (.func (.func 66) #[] #[]) w:=fun _=>jb
 unfold fnsV at x0 x1 x2 x3 x4;go_enter qfp,qfj;go_wp2;obtain⟨W,hW⟩:∃W,((w.alloc (.cells #[jf ra rn rc,jf na nn nc] 25)).alloc (.cells #[.func (.func 62) #[] #[],.func (.func 63) #[] #[],.func (.func 64) #[] #[],.func (.func 65) #[] #[],.func (.func 66) #[] #[]] 113))=W:=⟨_,rfl⟩;have hb:Below w.heap.size w W:=by rw[<-hW];exact zbo w _ _
 have b0:W.cell? ⟨w.heap.size,0,none⟩=some (jf ra rn rc):=by rw[<-hW];simp
 have b1:W.cell? ⟨w.heap.size,1,none⟩=some (jf na nn nc):=by rw[<-hW];simp
 have hsw:w.heap.size<W.heap.size:=by rw[<-hW];simp;omega
 rw[hW];have HW:=qaa hb;clear hW hb;refine wp_loop_rounds 1 ?_;rw[rounds_succ]
 go_wp2_with (go_at_call 62;(with_reducible refine(HE.out _ HW.out).mono ?_);rintro e w6 ⟨rfl,hb⟩;replace HW:=qaa (HW.out.trans (hb.mono HW.out.size));clear hb)
 go_ret;exact⟨rfl,HW.out⟩
theorem zsc (ra na:Option Addr)(rn rc nn nc:Nat)(part:ByteArray)(c p:Int)(w:World)(h1:OkAt 62 w (.agg #[jf ra rn rc,jf na nn nc]))(he:zlb 63 w (.agg #[jf ra rn rc,jf na nn nc]) part c p) :
  Calls qab 35 #[.agg #[jf ra rn rc,jf na nn nc]] w (PartErr part c p w):=by
 unfold OkAt at h1;unfold zlb at he;have H1:=qaa h1;clear h1;have HE:=qaa he;clear he;have x0:∀w,(Instr.index 113 fnsV (je jd 0)).run qab w=.ok (.func (.func 62) #[] #[]) w:=fun _=>jb
 have x1:∀w,(Instr.index 113 fnsV (je jd 1)).run qab w=.ok (.func (.func 63) #[] #[]) w:=fun _=>jb
 have x2:∀w,(Instr.index 113 fnsV (je jd 2)).run qab w=.ok (.func (.func 64) #[] #[]) w:=fun _=>jb
 have x3:∀w,(Instr.index 113 fnsV (je jd 3)).run qab w=.ok (.func (.func 65) #[] #[]) w:=fun _=>jb
 have x4:∀w,(Instr.index 113 fnsV (je jd 4)).run qab w=.ok (.func (.func 66) #[] #[]) w:=fun _=>jb
 unfold fnsV at x0 x1 x2 x3 x4;go_enter qfp,qfj;go_wp2;obtain⟨W,hW⟩:∃W,((w.alloc (.cells #[jf ra rn rc,jf na nn nc] 25)).alloc (.cells #[.func (.func 62) #[] #[],.func (.func 63) #[] #[],.func (.func 64) #[] #[],.func (.func 65) #[] #[],.func (.func 66) #[] #[]] 113))=W:=⟨_,rfl⟩;have hb:Below w.heap.size w W:=by rw[<-hW];exact zbo w _ _
 have b0:W.cell? ⟨w.heap.size,0,none⟩=some (jf ra rn rc):=by rw[<-hW];simp
 have b1:W.cell? ⟨w.heap.size,1,none⟩=some (jf na nn nc):=by rw[<-hW];simp
 have hsw:w.heap.size<W.heap.size:=by rw[<-hW];simp;omega
 rw[hW];have HW:=qaa hb;clear hW hb;refine wp_loop_rounds 2 ?_;rw[rounds_succ]
 go_wp2_with (go_at_call 62;(with_reducible refine(H1.out _ HW.out).mono ?_);rintro e w1 ⟨rfl,hb⟩;replace HW:=qaa (HW.out.trans (hb.mono HW.out.size));have q0:=(bcell hb).1 _ 0 hsw;have q1:=(bcell hb).1 _ 1 hsw;rw[b0] at q0;rw[b1] at q1;replace hsw:=qaz hsw hb.size;clear hb b0 b1;have b0:=q0;have b1:=q1;clear q0 q1)
 rw[rounds_succ]
 go_wp2_with (go_at_call 63;(with_reducible refine(HE.out _ HW.out).mono ?_);rintro e w6 ⟨⟨b,rfl,hin⟩,hb⟩;replace HW:=qaa (HW.out.trans (hb.mono HW.out.size));have HIN:=qaa hin;clear hb hin)
 go_ret;exact⟨⟨b,rfl,HIN.out⟩,HW.out⟩
theorem z05 (ra na:Option Addr)(rn rc nn nc:Nat)(part:ByteArray)(c p:Int)(w:World)(h1:OkAt 62 w (.agg #[jf ra rn rc,jf na nn nc]))(h2:OkAt 63 w (.agg #[jf ra rn rc,jf na nn nc]))(he:zlb 64 w (.agg #[jf ra rn rc,jf na nn nc]) part c p) :
  Calls qab 35 #[.agg #[jf ra rn rc,jf na nn nc]] w (PartErr part c p w):=by
 unfold OkAt at h1 h2;unfold zlb at he;have H1:=qaa h1;clear h1;have H2:=qaa h2;clear h2;have HE:=qaa he;clear he;have x0:∀w,(Instr.index 113 fnsV (je jd 0)).run qab w=.ok (.func (.func 62) #[] #[]) w:=fun _=>jb
 have x1:∀w,(Instr.index 113 fnsV (je jd 1)).run qab w=.ok (.func (.func 63) #[] #[]) w:=fun _=>jb
 have x2:∀w,(Instr.index 113 fnsV (je jd 2)).run qab w=.ok (.func (.func 64) #[] #[]) w:=fun _=>jb
 have x3:∀w,(Instr.index 113 fnsV (je jd 3)).run qab w=.ok (.func (.func 65) #[] #[]) w:=fun _=>jb
 have x4:∀w,(Instr.index 113 fnsV (je jd 4)).run qab w=.ok (.func (.func 66) #[] #[]) w:=fun _=>jb
 unfold fnsV at x0 x1 x2 x3 x4;go_enter qfp,qfj;go_wp2;obtain⟨W,hW⟩:∃W,((w.alloc (.cells #[jf ra rn rc,jf na nn nc] 25)).alloc (.cells #[.func (.func 62) #[] #[],.func (.func 63) #[] #[],.func (.func 64) #[] #[],.func (.func 65) #[] #[],.func (.func 66) #[] #[]] 113))=W:=⟨_,rfl⟩;have hb:Below w.heap.size w W:=by rw[<-hW];exact zbo w _ _
 have b0:W.cell? ⟨w.heap.size,0,none⟩=some (jf ra rn rc):=by rw[<-hW];simp
 have b1:W.cell? ⟨w.heap.size,1,none⟩=some (jf na nn nc):=by rw[<-hW];simp
 have hsw:w.heap.size<W.heap.size:=by rw[<-hW];simp;omega
 rw[hW];have HW:=qaa hb;clear hW hb;refine wp_loop_rounds 3 ?_;rw[rounds_succ]
 go_wp2_with (go_at_call 62;(with_reducible refine(H1.out _ HW.out).mono ?_);rintro e w1 ⟨rfl,hb⟩;replace HW:=qaa (HW.out.trans (hb.mono HW.out.size));have q0:=(bcell hb).1 _ 0 hsw;have q1:=(bcell hb).1 _ 1 hsw;rw[b0] at q0;rw[b1] at q1;replace hsw:=qaz hsw hb.size;clear hb b0 b1;have b0:=q0;have b1:=q1;clear q0 q1)
 rw[rounds_succ]
 go_wp2_with (go_at_call 63;(with_reducible refine(H2.out _ HW.out).mono ?_);rintro e w2 ⟨rfl,hb⟩;replace HW:=qaa (HW.out.trans (hb.mono HW.out.size));have q0:=(bcell hb).1 _ 0 hsw;have q1:=(bcell hb).1 _ 1 hsw;rw[b0] at q0;rw[b1] at q1;replace hsw:=qaz hsw hb.size;clear hb b0 b1;have b0:=q0;have b1:=q1;clear q0 q1)
 rw[rounds_succ]
 go_wp2_with (go_at_call 64;(with_reducible refine(HE.out _ HW.out).mono ?_);rintro e w6 ⟨⟨b,rfl,hin⟩,hb⟩;replace HW:=qaa (HW.out.trans (hb.mono HW.out.size));have HIN:=qaa hin;clear hb hin)
 go_ret;exact⟨⟨b,rfl,HIN.out⟩,HW.out⟩
theorem z06 (ra na:Option Addr)(rn rc nn nc:Nat)(c:Int)(w:World)(h1:OkAt 62 w (.agg #[jf ra rn rc,jf na nn nc]))(h2:OkAt 63 w (.agg #[jf ra rn rc,jf na nn nc]))(h3:OkAt 64 w (.agg #[jf ra rn rc,jf na nn nc]))(he:zsb 65 w (.agg #[jf ra rn rc,jf na nn nc]) c) :
  Calls qab 35 #[.agg #[jf ra rn rc,jf na nn nc]] w fun e w'=>e=.returned (.iface 60 (je jd c))/\Below w.heap.size w w':=by
 unfold OkAt at h1 h2 h3;unfold zsb at he;have H1:=qaa h1;clear h1;have H2:=qaa h2;clear h2;have H3:=qaa h3;clear h3;have HE:=qaa he;clear he;have x0:∀w,(Instr.index 113 fnsV (je jd 0)).run qab w=.ok (.func (.func 62) #[] #[]) w:=fun _=>jb
 have x1:∀w,(Instr.index 113 fnsV (je jd 1)).run qab w=.ok (.func (.func 63) #[] #[]) w:=fun _=>jb
 have x2:∀w,(Instr.index 113 fnsV (je jd 2)).run qab w=.ok (.func (.func 64) #[] #[]) w:=fun _=>jb
 have x3:∀w,(Instr.index 113 fnsV (je jd 3)).run qab w=.ok (.func (.func 65) #[] #[]) w:=fun _=>jb
 have x4:∀w,(Instr.index 113 fnsV (je jd 4)).run qab w=.ok (.func (.func 66) #[] #[]) w:=fun _=>jb
 unfold fnsV at x0 x1 x2 x3 x4;go_enter qfp,qfj;go_wp2;obtain⟨W,hW⟩:∃W,((w.alloc (.cells #[jf ra rn rc,jf na nn nc] 25)).alloc (.cells #[.func (.func 62) #[] #[],.func (.func 63) #[] #[],.func (.func 64) #[] #[],.func (.func 65) #[] #[],.func (.func 66) #[] #[]] 113))=W:=⟨_,rfl⟩;have hb:Below w.heap.size w W:=by rw[<-hW];exact zbo w _ _
 have b0:W.cell? ⟨w.heap.size,0,none⟩=some (jf ra rn rc):=by rw[<-hW];simp
 have b1:W.cell? ⟨w.heap.size,1,none⟩=some (jf na nn nc):=by rw[<-hW];simp
 have hsw:w.heap.size<W.heap.size:=by rw[<-hW];simp;omega
 rw[hW];have HW:=qaa hb;clear hW hb;refine wp_loop_rounds 4 ?_;rw[rounds_succ]
 go_wp2_with (go_at_call 62;(with_reducible refine(H1.out _ HW.out).mono ?_);rintro e w1 ⟨rfl,hb⟩;replace HW:=qaa (HW.out.trans (hb.mono HW.out.size));have q0:=(bcell hb).1 _ 0 hsw;have q1:=(bcell hb).1 _ 1 hsw;rw[b0] at q0;rw[b1] at q1;replace hsw:=qaz hsw hb.size;clear hb b0 b1;have b0:=q0;have b1:=q1;clear q0 q1)
 rw[rounds_succ]
 go_wp2_with (go_at_call 63;(with_reducible refine(H2.out _ HW.out).mono ?_);rintro e w2 ⟨rfl,hb⟩;replace HW:=qaa (HW.out.trans (hb.mono HW.out.size));have q0:=(bcell hb).1 _ 0 hsw;have q1:=(bcell hb).1 _ 1 hsw;rw[b0] at q0;rw[b1] at q1;replace hsw:=qaz hsw hb.size;clear hb b0 b1;have b0:=q0;have b1:=q1;clear q0 q1)
 rw[rounds_succ]
 go_wp2_with (go_at_call 64;(with_reducible refine(H3.out _ HW.out).mono ?_);rintro e w3 ⟨rfl,hb⟩;replace HW:=qaa (HW.out.trans (hb.mono HW.out.size));have q0:=(bcell hb).1 _ 0 hsw;have q1:=(bcell hb).1 _ 1 hsw;rw[b0] at q0;rw[b1] at q1;replace hsw:=qaz hsw hb.size;clear hb b0 b1;have b0:=q0;have b1:=q1;clear q0 q1)
 rw[rounds_succ]
 go_wp2_with (go_at_call 65;(with_reducible refine(HE.out _ HW.out).mono ?_);rintro e w6 ⟨rfl,hb⟩;replace HW:=qaa (HW.out.trans (hb.mono HW.out.size));clear hb)
 go_ret;exact⟨rfl,HW.out⟩
theorem z07 (ra na:Option Addr)(rn rc nn nc:Nat)(part:ByteArray)(c p:Int)(w:World)(h1:OkAt 62 w (.agg #[jf ra rn rc,jf na nn nc]))(h2:OkAt 63 w (.agg #[jf ra rn rc,jf na nn nc]))(h3:OkAt 64 w (.agg #[jf ra rn rc,jf na nn nc]))(h4:OkAt 65 w (.agg #[jf ra rn rc,jf na nn nc]))(he:zlb 66 w (.agg #[jf ra rn rc,jf na nn nc]) part c p) :
  Calls qab 35 #[.agg #[jf ra rn rc,jf na nn nc]] w (PartErr part c p w):=by
 unfold OkAt at h1 h2 h3 h4;unfold zlb at he;have H1:=qaa h1;clear h1;have H2:=qaa h2;clear h2;have H3:=qaa h3;clear h3;have H4:=qaa h4;clear h4;have HE:=qaa he;clear he;have x0:∀w,(Instr.index 113 fnsV (je jd 0)).run qab w=.ok (.func (.func 62) #[] #[]) w:=fun _=>jb
 have x1:∀w,(Instr.index 113 fnsV (je jd 1)).run qab w=.ok (.func (.func 63) #[] #[]) w:=fun _=>jb
 have x2:∀w,(Instr.index 113 fnsV (je jd 2)).run qab w=.ok (.func (.func 64) #[] #[]) w:=fun _=>jb
 have x3:∀w,(Instr.index 113 fnsV (je jd 3)).run qab w=.ok (.func (.func 65) #[] #[]) w:=fun _=>jb
 have x4:∀w,(Instr.index 113 fnsV (je jd 4)).run qab w=.ok (.func (.func 66) #[] #[]) w:=fun _=>jb
 unfold fnsV at x0 x1 x2 x3 x4;go_enter qfp,qfj;go_wp2;obtain⟨W,hW⟩:∃W,((w.alloc (.cells #[jf ra rn rc,jf na nn nc] 25)).alloc (.cells #[.func (.func 62) #[] #[],.func (.func 63) #[] #[],.func (.func 64) #[] #[],.func (.func 65) #[] #[],.func (.func 66) #[] #[]] 113))=W:=⟨_,rfl⟩;have hb:Below w.heap.size w W:=by rw[<-hW];exact zbo w _ _
 have b0:W.cell? ⟨w.heap.size,0,none⟩=some (jf ra rn rc):=by rw[<-hW];simp
 have b1:W.cell? ⟨w.heap.size,1,none⟩=some (jf na nn nc):=by rw[<-hW];simp
 have hsw:w.heap.size<W.heap.size:=by rw[<-hW];simp;omega
 rw[hW];have HW:=qaa hb;clear hW hb;refine wp_loop_rounds 5 ?_;rw[rounds_succ]
 go_wp2_with (go_at_call 62;(with_reducible refine(H1.out _ HW.out).mono ?_);rintro e w1 ⟨rfl,hb⟩;replace HW:=qaa (HW.out.trans (hb.mono HW.out.size));have q0:=(bcell hb).1 _ 0 hsw;have q1:=(bcell hb).1 _ 1 hsw;rw[b0] at q0;rw[b1] at q1;replace hsw:=qaz hsw hb.size;clear hb b0 b1;have b0:=q0;have b1:=q1;clear q0 q1)
 rw[rounds_succ]
 go_wp2_with (go_at_call 63;(with_reducible refine(H2.out _ HW.out).mono ?_);rintro e w2 ⟨rfl,hb⟩;replace HW:=qaa (HW.out.trans (hb.mono HW.out.size));have q0:=(bcell hb).1 _ 0 hsw;have q1:=(bcell hb).1 _ 1 hsw;rw[b0] at q0;rw[b1] at q1;replace hsw:=qaz hsw hb.size;clear hb b0 b1;have b0:=q0;have b1:=q1;clear q0 q1)
 rw[rounds_succ]
 go_wp2_with (go_at_call 64;(with_reducible refine(H3.out _ HW.out).mono ?_);rintro e w3 ⟨rfl,hb⟩;replace HW:=qaa (HW.out.trans (hb.mono HW.out.size));have q0:=(bcell hb).1 _ 0 hsw;have q1:=(bcell hb).1 _ 1 hsw;rw[b0] at q0;rw[b1] at q1;replace hsw:=qaz hsw hb.size;clear hb b0 b1;have b0:=q0;have b1:=q1;clear q0 q1)
 rw[rounds_succ]
 go_wp2_with (go_at_call 65;(with_reducible refine(H4.out _ HW.out).mono ?_);rintro e w4 ⟨rfl,hb⟩;replace HW:=qaa (HW.out.trans (hb.mono HW.out.size));have q0:=(bcell hb).1 _ 0 hsw;have q1:=(bcell hb).1 _ 1 hsw;rw[b0] at q0;rw[b1] at q1;replace hsw:=qaz hsw hb.size;clear hb b0 b1;have b0:=q0;have b1:=q1;clear q0 q1)
 rw[rounds_succ]
 go_wp2_with (go_at_call 66;(with_reducible refine(HE.out _ HW.out).mono ?_);rintro e w6 ⟨⟨b,rfl,hin⟩,hb⟩;replace HW:=qaa (HW.out.trans (hb.mono HW.out.size));have HIN:=qaa hin;clear hb hin)
 go_ret;exact⟨⟨b,rfl,HIN.out⟩,HW.out⟩
theorem z5i (rs:List PR)(ns:List PN):chkL rs ns=if 1000<rs.length∨10000<ns.length then .large else
 if rs.length=0 then .rules 0 else
 match fbad (zbp rs) rs.length 0 with
 |some i=>.rules i
 |none=>match fbad (zbv ns rs.length) ns.length 0 with
  |some i=>.nodes i
  |none=>if ordR ns rs (-1) then (match fbad (zb2 ns) ns.length 0 with
    |some i=>.deep i
    |none=>.ok) else .order:=rfl
theorem zoi (rv nv:Value)(rs:List PR)(ns:List PN)(w:World)(hR:RulesIn w rv rs)(hN:NodesAt w nv ns)(hnm:∀r,r ∈ rs->r.name.size<=2000000) :
  Calls qab 35 #[.agg #[rv,nv]] w (ChkIs (chkL rs ns) w):=by
 have hR':=hR;have hN':=hN;obtain⟨hlr,ra,rc,rfl,-⟩:=hR';obtain⟨hln,na,nc,rfl,-⟩:=hN';unfold maxLen at hlr hln;rw[z5i];by_cases hl:1000<rs.length∨10000<ns.length
 ·rw[if_pos hl]
  exact z04 ra na rs.length rc ns.length nc 4 w (fun W _=>by have:=zr2 ra na rs.length rc ns.length nc W U U;rw[if_pos hl] at this;exact this)
 have h1:OkAt 62 w (.agg #[jf ra rs.length rc,jf na ns.length nc]):=fun W _=>by have:=zr2 ra na rs.length rc ns.length nc W U U;rw[if_neg hl] at this;exact this
 rw[if_neg hl];by_cases h0:rs.length=0
 ·rw[if_pos h0]
  rw[h0] at h1 ⊢;exact zsc ra na 0 rc ns.length nc zn5 10 0 w h1 (fun W _=>zto ra na rc ns.length nc W)
 rw[if_neg h0];have hcn:=fun W (hb:Below w.heap.size w W)=>ztp _ na ns.length nc rs W (hR.kept hb (qac _)) U U hnm
 cases hq:fbad (zbp rs) rs.length 0 with
 |some i=>rw[hq] at hcn;exact zsc ra na rs.length rc ns.length nc zn5 10 i w h1 hcn
 |none=>
  rw[hq] at hcn;have h2:OkAt 63 w (.agg #[jf ra rs.length rc,jf na ns.length nc]):=hcn;have hcd:=fun W (hb:Below w.heap.size w W)=>ztv _ _ rs ns W (hR.kept hb (qac _)) (hN.kept hb (qac _))
  dsimp only;cases hq2:fbad (zbv ns rs.length) ns.length 0 with
  |some i=>rw[hq2] at hcd;exact z05 ra na rs.length rc ns.length nc zk4 10 i w h1 h2 hcd
  |none=>
   rw[hq2] at hcd;have h3:OkAt 64 w (.agg #[jf ra rs.length rc,jf na ns.length nc]):=hcd;have hco:=fun W (hb:Below w.heap.size w W)=>ztr _ _ rs ns W (hR.kept hb (qac _)) (hN.kept hb (qac _)) U U
   rw[z3j] at hco;dsimp only;cases ho:ordR ns rs (-1) with
   |false=>
    rw[ho] at hco;exact z06 ra na rs.length rc ns.length nc 10 w h1 h2 h3 hco
   |true=>
    rw[ho] at hco;have h4:OkAt 65 w (.agg #[jf ra rs.length rc,jf na ns.length nc]):=hco;have hcp:=fun W (hb:Below w.heap.size w W)=>zqa ra rs.length rc _ ns W (hN.kept hb (qac _)) U (zuh ho).kids
    rw[if_pos rfl];cases hq3:fbad (zb2 ns) ns.length 0 with
    |some i=>rw[hq3] at hcp;exact z07 ra na rs.length rc ns.length nc zk4 5 i w h1 h2 h3 h4 hcp
    |none=>
     rw[hq3] at hcp;exact z03 ra na rs.length rc ns.length nc w h1 h2 h3 h4 hcp
