/- gram.checkNodes, gram.Check. -/
import Derived.Laws.EntriesVeiled
import Derived.Test.YthhppmehhdlmnaaGreatDoorPzGA
import Derived.Test.YthhppmehhdlmnaaGreatDoorPzFS
set_option maxRecDepth 100000
set_option maxHeartbeats 4000000
namespace Go.Proofs.YthhppmehhdlmnaaGreatDoor
open Go.RowKit
theorem zn5 (n:PN)(ka:Option Addr)(kc R:Nat)(w:World)(hl:n.kids.length<=9223372036854775807) :
  Calls Tryz.prog 129 #[.agg #[.int .i64 n.op,.slice ka n.kids.length kc,.int .i64 n.rule,.int .u64 n.s0,.int .u64 n.s1,.int .u64 n.s2,.int .u64 n.s3],.int .i64 (R:Int)] w fun e w'=>e=.returned (.bool (madeB n R))/\Below w.heap.size w w':=by
 rw[zq5,zvw];exact z8f _ _ _ _ _ _ _ _ _ _ w hl
theorem zt0 {ns:List PN}{R k:Nat}{n:PN}(h:ns[k]?=some n):zbc ns R k=!madeB n R:=by unfold zbc;rw[h]
theorem zt1 (rv nv:Value)(rs:List PR)(ns:List PN)(w:World)(hR:RulesIn w rv rs)(hN:NodesAt w nv ns) :
  Calls Tryz.prog 96 #[.agg #[rv,nv]] w (FirstIs (fbad (zbc ns rs.length) ns.length 0) zjg 10 w):=by
 have HB:=Lib.hid (zab w);obtain⟨-,ra,rc,rfl,-⟩:=hR;obtain⟨hl,a,ca,rfl,ha⟩:=hN;unfold maxLen at hl;go_enter Tryz.func96,Tryz.ntmps96;go_wp2
 go_loopw [8] (fun c wr=>∃k:Nat,k<=ns.length/\c=.int .i64 k/\Below w.heap.size w wr/\w.heap.size<wr.heap.size/\wr.cell? ⟨w.heap.size,0,none⟩=some (.slice ra rs.length rc)/\fbad (zbc ns rs.length) ns.length 0=fbad (zbc ns rs.length) (ns.length-k) k) (fun c _=>ns.length-(intOf c).toNat)
 case atStart=>exact⟨0,Nat.zero_le _,rfl,HB.out _,by simp,by simp,rfl⟩
 case round=>
  obtain⟨k,hk,rfl,hbw,hsw,b0,hf⟩:=hrel;have HF:=Lib.hid hf;have HW:=Lib.hid hbw;have hszw:=hbw.size;clear hf;by_cases hlt:k<ns.length
  ·obtain⟨n,hn⟩:∃r,ns[k]?=some r:=⟨_,List.getElem?_eq_getElem hlt⟩
   rcases ha with h0|⟨nb,no,rfl,hca⟩
   ·rw[h0] at hlt;exact absurd hlt (Nat.not_lt_zero _)
   obtain⟨kv,c0,c1,c2,c3,c4,c5,c6,⟨ka,kc,rfl,-⟩,cl⟩:=(hca k n hn).kept hbw (Nat.le_refl _);have lb:=zac c0;have k1:(k:Int)<(ns.length:Int):=by omega
   have hsub:ns.length-k=(ns.length-(k+1))+1:=by omega
   rw[hsub] at HF;have hnb:=zt0 (R:=rs.length) hn;unfold maxLen at cl;have HC:=Lib.hid (fun W=>zn5 n ka kc rs.length W (by omega));clear hsub hca hn hbw;cases hm:madeB n rs.length with
   |false=>
    rw[hm] at hnb HC;have HR:=Lib.hid (HF.out.trans (zb3 hnb));clear hnb hm
    go_wp2_with (first
     |(go_at_call 129;(with_reducible refine(HC.out _).mono ?_);rintro e w1 ⟨rfl,hb⟩;have HW1:=Lib.hid ((HW.out.alloc hszw _).trans (hb.mono (by simp;omega)));clear hb)
     |(go_at_call 53;(with_reducible refine(zc6 _ _ _).mono ?_);rintro e w2 ⟨rfl,rfl⟩)
     |(go_at_call 51;(with_reducible refine(zcb _ _ _ _).mono ?_);rintro e w2 ⟨rfl,rfl⟩))
    go_ret;exact FirstIs.hit HR.out rfl HW1.out
   |true=>
    rw[hm] at hnb HC;have HR:=Lib.hid (HF.out.trans (zdu hnb));clear hnb hm
    go_wp2_with (go_at_call 129;(with_reducible refine(HC.out _).mono ?_);rintro e w1 ⟨rfl,hb⟩;have HW1:=Lib.hid ((HW.out.alloc hszw _).trans (hb.mono (by simp;omega)));have hb2:=(zab wr _).trans (hb.mono (zab wr _).size);have b0':=(bcell hb2).1 _ 0 hsw;rw[b0] at b0';have hsw1:=Nat.lt_of_lt_of_le hsw hb2.size;clear hb hb2)
    go_roundw
    case rel=>exact⟨k+1,by omega,by go_num,HW1.out,hsw1,b0',HR.out⟩
    case measure=>simp[intOf];omega
  ·obtain rfl:k=ns.length:=by omega
   have k1:¬(ns.length:Int)<(ns.length:Int):=by omega
   have HR:Hid (fbad (zbc ns rs.length) ns.length 0=none):=Lib.hid (by rw[HF.out,Nat.sub_self];rfl);clear hbw;go_wp2;go_ret;exact FirstIs.nil HR.out HW.out
def ChkIs (c:Chk)(w:World)(e:Ending)(w':World):Prop:=match c with
 |.ok=>e=.returned .nilIface/\Below w.heap.size w w'
 |.large=>e=.returned (.iface 81 (.int .i64 4))/\Below w.heap.size w w'
 |.order=>e=.returned (.iface 81 (.int .i64 10))/\Below w.heap.size w w'
 |.rules i=>PartErr zmu 10 (i:Int) w e w'
 |.nodes i=>PartErr zjg 10 (i:Int) w e w'
 |.deep i=>PartErr zjg 5 (i:Int) w e w'
theorem PartErr.from {part:ByteArray}{c p:Int}{w W w':World}{e:Ending}(h:PartErr part c p W e w')(hb:Below w.heap.size w W):PartErr part c p w e w':=⟨h.1,hb.trans (h.2.mono hb.size)⟩
def OkAt (f:Nat)(w:World)(g:Value):Prop:=∀W,Below w.heap.size w W->Calls Tryz.prog f #[g] W fun e w'=>e=.returned .nilIface/\Below W.heap.size W w'
def zsi (f:Nat)(w:World)(g:Value)(c:Int):Prop:=∀W,Below w.heap.size w W->Calls Tryz.prog f #[g] W fun e w'=>e=.returned (.iface 81 (.int .i64 c))/\Below W.heap.size W w'
def zkl (f:Nat)(w:World)(g:Value)(part:ByteArray)(c p:Int):Prop:=∀W,Below w.heap.size w W->Calls Tryz.prog f #[g] W (PartErr part c p W)
abbrev fnsV:Value:=.agg #[.func (.func 94) #[] #[],.func (.func 95) #[] #[],.func (.func 96) #[] #[],.func (.func 97) #[] #[],.func (.func 98) #[] #[]]
theorem z2v (ra na:Option Addr)(rn rc nn nc:Nat)(w:World)(h1:OkAt 94 w (.agg #[.slice ra rn rc,.slice na nn nc]))(h2:OkAt 95 w (.agg #[.slice ra rn rc,.slice na nn nc]))(h3:OkAt 96 w (.agg #[.slice ra rn rc,.slice na nn nc]))(h4:OkAt 97 w (.agg #[.slice ra rn rc,.slice na nn nc]))(h5:OkAt 98 w (.agg #[.slice ra rn rc,.slice na nn nc])) :
  Calls Tryz.prog 59 #[.agg #[.slice ra rn rc,.slice na nn nc]] w fun e w'=>e=.returned .nilIface/\Below w.heap.size w w':=by
 unfold OkAt at h1 h2 h3 h4 h5
 skip
 have H1:=Lib.hid h1;clear h1;have H2:=Lib.hid h2;clear h2;have H3:=Lib.hid h3;clear h3;have H4:=Lib.hid h4;clear h4;have H5:=Lib.hid h5;clear h5;have x0:∀w,(Instr.index 142 fnsV (.int .i64 0)).run Tryz.prog w=.ok (.func (.func 94) #[] #[]) w:=fun _=>by kernel_rfl
 have x1:∀w,(Instr.index 142 fnsV (.int .i64 1)).run Tryz.prog w=.ok (.func (.func 95) #[] #[]) w:=fun _=>by kernel_rfl
 have x2:∀w,(Instr.index 142 fnsV (.int .i64 2)).run Tryz.prog w=.ok (.func (.func 96) #[] #[]) w:=fun _=>by kernel_rfl
 have x3:∀w,(Instr.index 142 fnsV (.int .i64 3)).run Tryz.prog w=.ok (.func (.func 97) #[] #[]) w:=fun _=>by kernel_rfl
 have x4:∀w,(Instr.index 142 fnsV (.int .i64 4)).run Tryz.prog w=.ok (.func (.func 98) #[] #[]) w:=fun _=>by kernel_rfl
 unfold fnsV at x0 x1 x2 x3 x4;go_enter Tryz.func59,Tryz.ntmps59;go_wp2;obtain⟨W,hW⟩:∃W,((w.alloc (.cells #[.slice ra rn rc,.slice na nn nc] 25)).alloc (.cells #[.func (.func 94) #[] #[],.func (.func 95) #[] #[],.func (.func 96) #[] #[],.func (.func 97) #[] #[],.func (.func 98) #[] #[]] 142))=W:=⟨_,rfl⟩;have hb:Below w.heap.size w W:=by rw[<-hW];exact zat w _ _
 have b0:W.cell? ⟨w.heap.size,0,none⟩=some (.slice ra rn rc):=by rw[<-hW];simp
 have b1:W.cell? ⟨w.heap.size,1,none⟩=some (.slice na nn nc):=by rw[<-hW];simp
 have hsw:w.heap.size<W.heap.size:=by rw[<-hW];simp;omega
 rw[hW];have HW:=Lib.hid hb;clear hW hb;refine wp_loop_rounds 6 ?_;rw[rounds_succ]
 go_wp2_with (go_at_call 94;(with_reducible refine(H1.out _ HW.out).mono ?_);rintro e w1 ⟨rfl,hb⟩;replace HW:=Lib.hid (HW.out.trans (hb.mono HW.out.size));have q0:=(bcell hb).1 _ 0 hsw;have q1:=(bcell hb).1 _ 1 hsw;rw[b0] at q0;rw[b1] at q1;replace hsw:=Nat.lt_of_lt_of_le hsw hb.size;clear hb b0 b1;have b0:=q0;have b1:=q1;clear q0 q1)
 rw[rounds_succ]
 go_wp2_with (go_at_call 95;(with_reducible refine(H2.out _ HW.out).mono ?_);rintro e w2 ⟨rfl,hb⟩;replace HW:=Lib.hid (HW.out.trans (hb.mono HW.out.size));have q0:=(bcell hb).1 _ 0 hsw;have q1:=(bcell hb).1 _ 1 hsw;rw[b0] at q0;rw[b1] at q1;replace hsw:=Nat.lt_of_lt_of_le hsw hb.size;clear hb b0 b1;have b0:=q0;have b1:=q1;clear q0 q1)
 rw[rounds_succ]
 go_wp2_with (go_at_call 96;(with_reducible refine(H3.out _ HW.out).mono ?_);rintro e w3 ⟨rfl,hb⟩;replace HW:=Lib.hid (HW.out.trans (hb.mono HW.out.size));have q0:=(bcell hb).1 _ 0 hsw;have q1:=(bcell hb).1 _ 1 hsw;rw[b0] at q0;rw[b1] at q1;replace hsw:=Nat.lt_of_lt_of_le hsw hb.size;clear hb b0 b1;have b0:=q0;have b1:=q1;clear q0 q1)
 rw[rounds_succ]
 go_wp2_with (go_at_call 97;(with_reducible refine(H4.out _ HW.out).mono ?_);rintro e w4 ⟨rfl,hb⟩;replace HW:=Lib.hid (HW.out.trans (hb.mono HW.out.size));have q0:=(bcell hb).1 _ 0 hsw;have q1:=(bcell hb).1 _ 1 hsw;rw[b0] at q0;rw[b1] at q1;replace hsw:=Nat.lt_of_lt_of_le hsw hb.size;clear hb b0 b1;have b0:=q0;have b1:=q1;clear q0 q1)
 rw[rounds_succ]
 go_wp2_with (go_at_call 98;(with_reducible refine(H5.out _ HW.out).mono ?_);rintro e w5 ⟨rfl,hb⟩;replace HW:=Lib.hid (HW.out.trans (hb.mono HW.out.size));have q0:=(bcell hb).1 _ 0 hsw;have q1:=(bcell hb).1 _ 1 hsw;rw[b0] at q0;rw[b1] at q1;replace hsw:=Nat.lt_of_lt_of_le hsw hb.size;clear hb b0 b1;have b0:=q0;have b1:=q1;clear q0 q1)
 rw[rounds_succ];go_wp2;go_ret;exact⟨rfl,HW.out⟩
theorem z2w (ra na:Option Addr)(rn rc nn nc:Nat)(c:Int)(w:World)  (he:zsi 94 w (.agg #[.slice ra rn rc,.slice na nn nc]) c) :
  Calls Tryz.prog 59 #[.agg #[.slice ra rn rc,.slice na nn nc]] w fun e w'=>e=.returned (.iface 81 (.int .i64 c))/\Below w.heap.size w w':=by
 skip
 unfold zsi at he;have HE:=Lib.hid he;clear he;have x0:∀w,(Instr.index 142 fnsV (.int .i64 0)).run Tryz.prog w=.ok (.func (.func 94) #[] #[]) w:=fun _=>by kernel_rfl
 have x1:∀w,(Instr.index 142 fnsV (.int .i64 1)).run Tryz.prog w=.ok (.func (.func 95) #[] #[]) w:=fun _=>by kernel_rfl
 have x2:∀w,(Instr.index 142 fnsV (.int .i64 2)).run Tryz.prog w=.ok (.func (.func 96) #[] #[]) w:=fun _=>by kernel_rfl
 have x3:∀w,(Instr.index 142 fnsV (.int .i64 3)).run Tryz.prog w=.ok (.func (.func 97) #[] #[]) w:=fun _=>by kernel_rfl
 have x4:∀w,(Instr.index 142 fnsV (.int .i64 4)).run Tryz.prog w=.ok (.func (.func 98) #[] #[]) w:=fun _=>by kernel_rfl
 unfold fnsV at x0 x1 x2 x3 x4;go_enter Tryz.func59,Tryz.ntmps59;go_wp2;obtain⟨W,hW⟩:∃W,((w.alloc (.cells #[.slice ra rn rc,.slice na nn nc] 25)).alloc (.cells #[.func (.func 94) #[] #[],.func (.func 95) #[] #[],.func (.func 96) #[] #[],.func (.func 97) #[] #[],.func (.func 98) #[] #[]] 142))=W:=⟨_,rfl⟩;have hb:Below w.heap.size w W:=by rw[<-hW];exact zat w _ _
 have b0:W.cell? ⟨w.heap.size,0,none⟩=some (.slice ra rn rc):=by rw[<-hW];simp
 have b1:W.cell? ⟨w.heap.size,1,none⟩=some (.slice na nn nc):=by rw[<-hW];simp
 have hsw:w.heap.size<W.heap.size:=by rw[<-hW];simp;omega
 rw[hW];have HW:=Lib.hid hb;clear hW hb;refine wp_loop_rounds 1 ?_;rw[rounds_succ]
 go_wp2_with (go_at_call 94;(with_reducible refine(HE.out _ HW.out).mono ?_);rintro e w6 ⟨rfl,hb⟩;replace HW:=Lib.hid (HW.out.trans (hb.mono HW.out.size));clear hb)
 go_ret;exact⟨rfl,HW.out⟩
theorem zsj (ra na:Option Addr)(rn rc nn nc:Nat)(part:ByteArray)(c p:Int)(w:World)(h1:OkAt 94 w (.agg #[.slice ra rn rc,.slice na nn nc]))(he:zkl 95 w (.agg #[.slice ra rn rc,.slice na nn nc]) part c p) :
  Calls Tryz.prog 59 #[.agg #[.slice ra rn rc,.slice na nn nc]] w (PartErr part c p w):=by
 unfold OkAt at h1;unfold zkl at he;have H1:=Lib.hid h1;clear h1;have HE:=Lib.hid he;clear he;have x0:∀w,(Instr.index 142 fnsV (.int .i64 0)).run Tryz.prog w=.ok (.func (.func 94) #[] #[]) w:=fun _=>by kernel_rfl
 have x1:∀w,(Instr.index 142 fnsV (.int .i64 1)).run Tryz.prog w=.ok (.func (.func 95) #[] #[]) w:=fun _=>by kernel_rfl
 have x2:∀w,(Instr.index 142 fnsV (.int .i64 2)).run Tryz.prog w=.ok (.func (.func 96) #[] #[]) w:=fun _=>by kernel_rfl
 have x3:∀w,(Instr.index 142 fnsV (.int .i64 3)).run Tryz.prog w=.ok (.func (.func 97) #[] #[]) w:=fun _=>by kernel_rfl
 have x4:∀w,(Instr.index 142 fnsV (.int .i64 4)).run Tryz.prog w=.ok (.func (.func 98) #[] #[]) w:=fun _=>by kernel_rfl
 unfold fnsV at x0 x1 x2 x3 x4;go_enter Tryz.func59,Tryz.ntmps59;go_wp2;obtain⟨W,hW⟩:∃W,((w.alloc (.cells #[.slice ra rn rc,.slice na nn nc] 25)).alloc (.cells #[.func (.func 94) #[] #[],.func (.func 95) #[] #[],.func (.func 96) #[] #[],.func (.func 97) #[] #[],.func (.func 98) #[] #[]] 142))=W:=⟨_,rfl⟩;have hb:Below w.heap.size w W:=by rw[<-hW];exact zat w _ _
 have b0:W.cell? ⟨w.heap.size,0,none⟩=some (.slice ra rn rc):=by rw[<-hW];simp
 have b1:W.cell? ⟨w.heap.size,1,none⟩=some (.slice na nn nc):=by rw[<-hW];simp
 have hsw:w.heap.size<W.heap.size:=by rw[<-hW];simp;omega
 rw[hW];have HW:=Lib.hid hb;clear hW hb;refine wp_loop_rounds 2 ?_;rw[rounds_succ]
 go_wp2_with (go_at_call 94;(with_reducible refine(H1.out _ HW.out).mono ?_);rintro e w1 ⟨rfl,hb⟩;replace HW:=Lib.hid (HW.out.trans (hb.mono HW.out.size));have q0:=(bcell hb).1 _ 0 hsw;have q1:=(bcell hb).1 _ 1 hsw;rw[b0] at q0;rw[b1] at q1;replace hsw:=Nat.lt_of_lt_of_le hsw hb.size;clear hb b0 b1;have b0:=q0;have b1:=q1;clear q0 q1)
 rw[rounds_succ]
 go_wp2_with (go_at_call 95;(with_reducible refine(HE.out _ HW.out).mono ?_);rintro e w6 ⟨⟨b,rfl,hin⟩,hb⟩;replace HW:=Lib.hid (HW.out.trans (hb.mono HW.out.size));have HIN:=Lib.hid hin;clear hb hin)
 go_ret;exact⟨⟨b,rfl,HIN.out⟩,HW.out⟩
theorem z2x (ra na:Option Addr)(rn rc nn nc:Nat)(part:ByteArray)(c p:Int)(w:World)(h1:OkAt 94 w (.agg #[.slice ra rn rc,.slice na nn nc]))(h2:OkAt 95 w (.agg #[.slice ra rn rc,.slice na nn nc]))(he:zkl 96 w (.agg #[.slice ra rn rc,.slice na nn nc]) part c p) :
  Calls Tryz.prog 59 #[.agg #[.slice ra rn rc,.slice na nn nc]] w (PartErr part c p w):=by
 unfold OkAt at h1 h2;unfold zkl at he;have H1:=Lib.hid h1;clear h1;have H2:=Lib.hid h2;clear h2;have HE:=Lib.hid he;clear he;have x0:∀w,(Instr.index 142 fnsV (.int .i64 0)).run Tryz.prog w=.ok (.func (.func 94) #[] #[]) w:=fun _=>by kernel_rfl
 have x1:∀w,(Instr.index 142 fnsV (.int .i64 1)).run Tryz.prog w=.ok (.func (.func 95) #[] #[]) w:=fun _=>by kernel_rfl
 have x2:∀w,(Instr.index 142 fnsV (.int .i64 2)).run Tryz.prog w=.ok (.func (.func 96) #[] #[]) w:=fun _=>by kernel_rfl
 have x3:∀w,(Instr.index 142 fnsV (.int .i64 3)).run Tryz.prog w=.ok (.func (.func 97) #[] #[]) w:=fun _=>by kernel_rfl
 have x4:∀w,(Instr.index 142 fnsV (.int .i64 4)).run Tryz.prog w=.ok (.func (.func 98) #[] #[]) w:=fun _=>by kernel_rfl
 unfold fnsV at x0 x1 x2 x3 x4;go_enter Tryz.func59,Tryz.ntmps59;go_wp2;obtain⟨W,hW⟩:∃W,((w.alloc (.cells #[.slice ra rn rc,.slice na nn nc] 25)).alloc (.cells #[.func (.func 94) #[] #[],.func (.func 95) #[] #[],.func (.func 96) #[] #[],.func (.func 97) #[] #[],.func (.func 98) #[] #[]] 142))=W:=⟨_,rfl⟩;have hb:Below w.heap.size w W:=by rw[<-hW];exact zat w _ _
 have b0:W.cell? ⟨w.heap.size,0,none⟩=some (.slice ra rn rc):=by rw[<-hW];simp
 have b1:W.cell? ⟨w.heap.size,1,none⟩=some (.slice na nn nc):=by rw[<-hW];simp
 have hsw:w.heap.size<W.heap.size:=by rw[<-hW];simp;omega
 rw[hW];have HW:=Lib.hid hb;clear hW hb;refine wp_loop_rounds 3 ?_;rw[rounds_succ]
 go_wp2_with (go_at_call 94;(with_reducible refine(H1.out _ HW.out).mono ?_);rintro e w1 ⟨rfl,hb⟩;replace HW:=Lib.hid (HW.out.trans (hb.mono HW.out.size));have q0:=(bcell hb).1 _ 0 hsw;have q1:=(bcell hb).1 _ 1 hsw;rw[b0] at q0;rw[b1] at q1;replace hsw:=Nat.lt_of_lt_of_le hsw hb.size;clear hb b0 b1;have b0:=q0;have b1:=q1;clear q0 q1)
 rw[rounds_succ]
 go_wp2_with (go_at_call 95;(with_reducible refine(H2.out _ HW.out).mono ?_);rintro e w2 ⟨rfl,hb⟩;replace HW:=Lib.hid (HW.out.trans (hb.mono HW.out.size));have q0:=(bcell hb).1 _ 0 hsw;have q1:=(bcell hb).1 _ 1 hsw;rw[b0] at q0;rw[b1] at q1;replace hsw:=Nat.lt_of_lt_of_le hsw hb.size;clear hb b0 b1;have b0:=q0;have b1:=q1;clear q0 q1)
 rw[rounds_succ]
 go_wp2_with (go_at_call 96;(with_reducible refine(HE.out _ HW.out).mono ?_);rintro e w6 ⟨⟨b,rfl,hin⟩,hb⟩;replace HW:=Lib.hid (HW.out.trans (hb.mono HW.out.size));have HIN:=Lib.hid hin;clear hb hin)
 go_ret;exact⟨⟨b,rfl,HIN.out⟩,HW.out⟩
theorem z2y (ra na:Option Addr)(rn rc nn nc:Nat)(c:Int)(w:World)(h1:OkAt 94 w (.agg #[.slice ra rn rc,.slice na nn nc]))(h2:OkAt 95 w (.agg #[.slice ra rn rc,.slice na nn nc]))(h3:OkAt 96 w (.agg #[.slice ra rn rc,.slice na nn nc]))(he:zsi 97 w (.agg #[.slice ra rn rc,.slice na nn nc]) c) :
  Calls Tryz.prog 59 #[.agg #[.slice ra rn rc,.slice na nn nc]] w fun e w'=>e=.returned (.iface 81 (.int .i64 c))/\Below w.heap.size w w':=by
 unfold OkAt at h1 h2 h3;unfold zsi at he;have H1:=Lib.hid h1;clear h1;have H2:=Lib.hid h2;clear h2;have H3:=Lib.hid h3;clear h3;have HE:=Lib.hid he;clear he;have x0:∀w,(Instr.index 142 fnsV (.int .i64 0)).run Tryz.prog w=.ok (.func (.func 94) #[] #[]) w:=fun _=>by kernel_rfl
 have x1:∀w,(Instr.index 142 fnsV (.int .i64 1)).run Tryz.prog w=.ok (.func (.func 95) #[] #[]) w:=fun _=>by kernel_rfl
 have x2:∀w,(Instr.index 142 fnsV (.int .i64 2)).run Tryz.prog w=.ok (.func (.func 96) #[] #[]) w:=fun _=>by kernel_rfl
 have x3:∀w,(Instr.index 142 fnsV (.int .i64 3)).run Tryz.prog w=.ok (.func (.func 97) #[] #[]) w:=fun _=>by kernel_rfl
 have x4:∀w,(Instr.index 142 fnsV (.int .i64 4)).run Tryz.prog w=.ok (.func (.func 98) #[] #[]) w:=fun _=>by kernel_rfl
 unfold fnsV at x0 x1 x2 x3 x4;go_enter Tryz.func59,Tryz.ntmps59;go_wp2;obtain⟨W,hW⟩:∃W,((w.alloc (.cells #[.slice ra rn rc,.slice na nn nc] 25)).alloc (.cells #[.func (.func 94) #[] #[],.func (.func 95) #[] #[],.func (.func 96) #[] #[],.func (.func 97) #[] #[],.func (.func 98) #[] #[]] 142))=W:=⟨_,rfl⟩;have hb:Below w.heap.size w W:=by rw[<-hW];exact zat w _ _
 have b0:W.cell? ⟨w.heap.size,0,none⟩=some (.slice ra rn rc):=by rw[<-hW];simp
 have b1:W.cell? ⟨w.heap.size,1,none⟩=some (.slice na nn nc):=by rw[<-hW];simp
 have hsw:w.heap.size<W.heap.size:=by rw[<-hW];simp;omega
 rw[hW];have HW:=Lib.hid hb;clear hW hb;refine wp_loop_rounds 4 ?_;rw[rounds_succ]
 go_wp2_with (go_at_call 94;(with_reducible refine(H1.out _ HW.out).mono ?_);rintro e w1 ⟨rfl,hb⟩;replace HW:=Lib.hid (HW.out.trans (hb.mono HW.out.size));have q0:=(bcell hb).1 _ 0 hsw;have q1:=(bcell hb).1 _ 1 hsw;rw[b0] at q0;rw[b1] at q1;replace hsw:=Nat.lt_of_lt_of_le hsw hb.size;clear hb b0 b1;have b0:=q0;have b1:=q1;clear q0 q1)
 rw[rounds_succ]
 go_wp2_with (go_at_call 95;(with_reducible refine(H2.out _ HW.out).mono ?_);rintro e w2 ⟨rfl,hb⟩;replace HW:=Lib.hid (HW.out.trans (hb.mono HW.out.size));have q0:=(bcell hb).1 _ 0 hsw;have q1:=(bcell hb).1 _ 1 hsw;rw[b0] at q0;rw[b1] at q1;replace hsw:=Nat.lt_of_lt_of_le hsw hb.size;clear hb b0 b1;have b0:=q0;have b1:=q1;clear q0 q1)
 rw[rounds_succ]
 go_wp2_with (go_at_call 96;(with_reducible refine(H3.out _ HW.out).mono ?_);rintro e w3 ⟨rfl,hb⟩;replace HW:=Lib.hid (HW.out.trans (hb.mono HW.out.size));have q0:=(bcell hb).1 _ 0 hsw;have q1:=(bcell hb).1 _ 1 hsw;rw[b0] at q0;rw[b1] at q1;replace hsw:=Nat.lt_of_lt_of_le hsw hb.size;clear hb b0 b1;have b0:=q0;have b1:=q1;clear q0 q1)
 rw[rounds_succ]
 go_wp2_with (go_at_call 97;(with_reducible refine(HE.out _ HW.out).mono ?_);rintro e w6 ⟨rfl,hb⟩;replace HW:=Lib.hid (HW.out.trans (hb.mono HW.out.size));clear hb)
 go_ret;exact⟨rfl,HW.out⟩
theorem z2z (ra na:Option Addr)(rn rc nn nc:Nat)(part:ByteArray)(c p:Int)(w:World)(h1:OkAt 94 w (.agg #[.slice ra rn rc,.slice na nn nc]))(h2:OkAt 95 w (.agg #[.slice ra rn rc,.slice na nn nc]))(h3:OkAt 96 w (.agg #[.slice ra rn rc,.slice na nn nc]))(h4:OkAt 97 w (.agg #[.slice ra rn rc,.slice na nn nc]))(he:zkl 98 w (.agg #[.slice ra rn rc,.slice na nn nc]) part c p) :
  Calls Tryz.prog 59 #[.agg #[.slice ra rn rc,.slice na nn nc]] w (PartErr part c p w):=by
 unfold OkAt at h1 h2 h3 h4;unfold zkl at he;have H1:=Lib.hid h1;clear h1;have H2:=Lib.hid h2;clear h2;have H3:=Lib.hid h3;clear h3;have H4:=Lib.hid h4;clear h4;have HE:=Lib.hid he;clear he;have x0:∀w,(Instr.index 142 fnsV (.int .i64 0)).run Tryz.prog w=.ok (.func (.func 94) #[] #[]) w:=fun _=>by kernel_rfl
 have x1:∀w,(Instr.index 142 fnsV (.int .i64 1)).run Tryz.prog w=.ok (.func (.func 95) #[] #[]) w:=fun _=>by kernel_rfl
 have x2:∀w,(Instr.index 142 fnsV (.int .i64 2)).run Tryz.prog w=.ok (.func (.func 96) #[] #[]) w:=fun _=>by kernel_rfl
 have x3:∀w,(Instr.index 142 fnsV (.int .i64 3)).run Tryz.prog w=.ok (.func (.func 97) #[] #[]) w:=fun _=>by kernel_rfl
 have x4:∀w,(Instr.index 142 fnsV (.int .i64 4)).run Tryz.prog w=.ok (.func (.func 98) #[] #[]) w:=fun _=>by kernel_rfl
 unfold fnsV at x0 x1 x2 x3 x4;go_enter Tryz.func59,Tryz.ntmps59;go_wp2;obtain⟨W,hW⟩:∃W,((w.alloc (.cells #[.slice ra rn rc,.slice na nn nc] 25)).alloc (.cells #[.func (.func 94) #[] #[],.func (.func 95) #[] #[],.func (.func 96) #[] #[],.func (.func 97) #[] #[],.func (.func 98) #[] #[]] 142))=W:=⟨_,rfl⟩;have hb:Below w.heap.size w W:=by rw[<-hW];exact zat w _ _
 have b0:W.cell? ⟨w.heap.size,0,none⟩=some (.slice ra rn rc):=by rw[<-hW];simp
 have b1:W.cell? ⟨w.heap.size,1,none⟩=some (.slice na nn nc):=by rw[<-hW];simp
 have hsw:w.heap.size<W.heap.size:=by rw[<-hW];simp;omega
 rw[hW];have HW:=Lib.hid hb;clear hW hb;refine wp_loop_rounds 5 ?_;rw[rounds_succ]
 go_wp2_with (go_at_call 94;(with_reducible refine(H1.out _ HW.out).mono ?_);rintro e w1 ⟨rfl,hb⟩;replace HW:=Lib.hid (HW.out.trans (hb.mono HW.out.size));have q0:=(bcell hb).1 _ 0 hsw;have q1:=(bcell hb).1 _ 1 hsw;rw[b0] at q0;rw[b1] at q1;replace hsw:=Nat.lt_of_lt_of_le hsw hb.size;clear hb b0 b1;have b0:=q0;have b1:=q1;clear q0 q1)
 rw[rounds_succ]
 go_wp2_with (go_at_call 95;(with_reducible refine(H2.out _ HW.out).mono ?_);rintro e w2 ⟨rfl,hb⟩;replace HW:=Lib.hid (HW.out.trans (hb.mono HW.out.size));have q0:=(bcell hb).1 _ 0 hsw;have q1:=(bcell hb).1 _ 1 hsw;rw[b0] at q0;rw[b1] at q1;replace hsw:=Nat.lt_of_lt_of_le hsw hb.size;clear hb b0 b1;have b0:=q0;have b1:=q1;clear q0 q1)
 rw[rounds_succ]
 go_wp2_with (go_at_call 96;(with_reducible refine(H3.out _ HW.out).mono ?_);rintro e w3 ⟨rfl,hb⟩;replace HW:=Lib.hid (HW.out.trans (hb.mono HW.out.size));have q0:=(bcell hb).1 _ 0 hsw;have q1:=(bcell hb).1 _ 1 hsw;rw[b0] at q0;rw[b1] at q1;replace hsw:=Nat.lt_of_lt_of_le hsw hb.size;clear hb b0 b1;have b0:=q0;have b1:=q1;clear q0 q1)
 rw[rounds_succ]
 go_wp2_with (go_at_call 97;(with_reducible refine(H4.out _ HW.out).mono ?_);rintro e w4 ⟨rfl,hb⟩;replace HW:=Lib.hid (HW.out.trans (hb.mono HW.out.size));have q0:=(bcell hb).1 _ 0 hsw;have q1:=(bcell hb).1 _ 1 hsw;rw[b0] at q0;rw[b1] at q1;replace hsw:=Nat.lt_of_lt_of_le hsw hb.size;clear hb b0 b1;have b0:=q0;have b1:=q1;clear q0 q1)
 rw[rounds_succ]
 go_wp2_with (go_at_call 98;(with_reducible refine(HE.out _ HW.out).mono ?_);rintro e w6 ⟨⟨b,rfl,hin⟩,hb⟩;replace HW:=Lib.hid (HW.out.trans (hb.mono HW.out.size));have HIN:=Lib.hid hin;clear hb hin)
 go_ret;exact⟨⟨b,rfl,HIN.out⟩,HW.out⟩
theorem z7o (rs:List PR)(ns:List PN):chkL rs ns=if 1000<rs.length∨10000<ns.length then .large else
 if rs.length=0 then .rules 0 else
 match fbad (zbm rs) rs.length 0 with
 |some i=>.rules i
 |none=>match fbad (zbc ns rs.length) ns.length 0 with
  |some i=>.nodes i
  |none=>if ordR ns rs (-1) then (match fbad (zbp ns) ns.length 0 with
    |some i=>.deep i
    |none=>.ok) else .order:=rfl
theorem zy3 (rv nv:Value)(rs:List PR)(ns:List PN)(w:World)(hR:RulesIn w rv rs)(hN:NodesAt w nv ns)(hnm:∀r,r ∈ rs->r.name.size<=2000000) :
  Calls Tryz.prog 59 #[.agg #[rv,nv]] w (ChkIs (chkL rs ns) w):=by
 have hR':=hR;have hN':=hN;obtain⟨hlr,ra,rc,rfl,-⟩:=hR';obtain⟨hln,na,nc,rfl,-⟩:=hN';unfold maxLen at hlr hln;rw[z7o];by_cases hl:1000<rs.length∨10000<ns.length
 ·rw[if_pos hl]
  exact z2w ra na rs.length rc ns.length nc 4 w (fun W _=>by have:=zq2 ra na rs.length rc ns.length nc W (by omega) (by omega);rw[if_pos hl] at this;exact this)
 have h1:OkAt 94 w (.agg #[.slice ra rs.length rc,.slice na ns.length nc]):=fun W _=>by have:=zq2 ra na rs.length rc ns.length nc W (by omega) (by omega);rw[if_neg hl] at this;exact this
 rw[if_neg hl];by_cases h0:rs.length=0
 ·rw[if_pos h0]
  rw[h0] at h1 ⊢;exact zsj ra na 0 rc ns.length nc zmu 10 0 w h1 (fun W _=>zsz ra na rc ns.length nc W)
 rw[if_neg h0];have hcn:=fun W (hb:Below w.heap.size w W)=>zs0 _ na ns.length nc rs W (hR.kept hb (Nat.le_refl _)) (by omega) (by omega) hnm
 cases hq:fbad (zbm rs) rs.length 0 with
 |some i=>rw[hq] at hcn;exact zsj ra na rs.length rc ns.length nc zmu 10 i w h1 hcn
 |none=>
  rw[hq] at hcn;have h2:OkAt 95 w (.agg #[.slice ra rs.length rc,.slice na ns.length nc]):=hcn;have hcd:=fun W (hb:Below w.heap.size w W)=>zt1 _ _ rs ns W (hR.kept hb (Nat.le_refl _)) (hN.kept hb (Nat.le_refl _))
  dsimp only;cases hq2:fbad (zbc ns rs.length) ns.length 0 with
  |some i=>rw[hq2] at hcd;exact z2x ra na rs.length rc ns.length nc zjg 10 i w h1 h2 hcd
  |none=>
   rw[hq2] at hcd;have h3:OkAt 96 w (.agg #[.slice ra rs.length rc,.slice na ns.length nc]):=hcd;have hco:=fun W (hb:Below w.heap.size w W)=>zs2 _ _ rs ns W (hR.kept hb (Nat.le_refl _)) (hN.kept hb (Nat.le_refl _)) (by omega) (by omega)
   rw[z4g] at hco;dsimp only;cases ho:ordR ns rs (-1) with
   |false=>
    rw[ho] at hco;exact z2y ra na rs.length rc ns.length nc 10 w h1 h2 h3 hco
   |true=>
    rw[ho] at hco;have h4:OkAt 97 w (.agg #[.slice ra rs.length rc,.slice na ns.length nc]):=hco;have hcp:=fun W (hb:Below w.heap.size w W)=>zow ra rs.length rc _ ns W (hN.kept hb (Nat.le_refl _)) (by omega) (zod ho).kids
    rw[if_pos rfl];cases hq3:fbad (zbp ns) ns.length 0 with
    |some i=>rw[hq3] at hcp;exact z2z ra na rs.length rc ns.length nc zjg 5 i w h1 h2 h3 h4 hcp
    |none=>
     rw[hq3] at hcp;exact z2v ra na rs.length rc ns.length nc w h1 h2 h3 h4 hcp
end Go.Proofs.YthhppmehhdlmnaaGreatDoor
