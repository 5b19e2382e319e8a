/- Layer 13: callsOf, Recursive, Cycle. Layer 13: strings.Join; left.Explain. Written by wip/gen/leftexp.py. -/
import Derived.Shelf.Strings.OnBuilder
import Derived.Test.YthhppmehhdlmnaaGreatDoorPzLC
set_option maxRecDepth 100000
set_option maxHeartbeats 8000000
namespace Go.Proofs.YthhppmehhdlmnaaGreatDoor
section
open Go.RowKit
noncomputable def recB (rs:List PR)(ns:List PN)(r:Nat):Bool:=decide (0<(cycW (zai rs ns) r).length)
noncomputable def recW (rs:List PR)(ns:List PN):List Nat:=(List.range rs.length).filter (recB rs ns)
theorem zda {rs:List PR}{ns:List PN}{r:Nat}:recB rs ns r=true↔RchG (zai rs ns) r r:=by
 unfold recB;rw[decide_eq_true_iff,<-z08];cases cycW (zai rs ns) r<;>simp
theorem zw9 {p:Nat->Bool}{k:Nat}(h:p k=true):(List.range (k+1)).filter p=(List.range k).filter p++[k]:=by
 rw[List.range_succ,List.filter_append,List.filter_cons_of_pos h];rfl
theorem z1l {p:Nat->Bool}{k:Nat}(h:p k=false):(List.range (k+1)).filter p=(List.range k).filter p:=by
 rw[List.range_succ,List.filter_append,List.filter_cons_of_neg (by rw[h];simp)];simp
theorem zrq (p:Nat->Bool)(k:Nat):((List.range k).filter p).length<=k:=by
 have:=List.length_filter_le p (List.range k);rwa [List.length_range] at this
def CofIs (rv nv:Value)(w:World)(e:Ending)(w':World):Prop:=∃KB,e=.returned (.agg #[rv,nv,.map (some KB)])/\w.heap.size<=KB/\Below w.heap.size w w'/\MZ w' KB (fun _=>none)
theorem zen (ra na:Option Addr)(rn rc nn nc:Nat)(w:World) :
  Calls Tryz.prog 36 #[.agg #[.slice ra rn rc,.slice na nn nc]] w (CofIs (.slice ra rn rc) (.slice na nn nc) w):=by
 have hmm:=@run_makeMap Tryz.prog;go_enter Tryz.func36,Tryz.ntmps36;go_wp2;obtain⟨W3,hW3⟩:∃W3,((w.alloc (.cells #[.slice ra rn rc,.slice na nn nc] 25)).alloc (.cells #[.slice ra rn rc,.slice na nn nc,.map (some (w.heap.size+1+1))] 61)).alloc (.map #[] 0)=W3:=⟨_,rfl⟩;have hb3:Below w.heap.size w W3:=by rw[<-hW3];exact zar (zar (zar (Below.refl _ _)))
 have hB:Bl W3 (w.heap.size+1) 61 #[.slice ra rn rc,.slice na nn nc,.map (some (w.heap.size+1+1))]:=by
  rw[<-hW3];exact(Bl.new' (by simp)).past
 have hM:MZ W3 (w.heap.size+1+1) (fun _=>none):=by
  rw[<-hW3];have:=MZ.made ((w.alloc (.cells #[.slice ra rn rc,.slice na nn nc] 25)).alloc (.cells #[.slice ra rn rc,.slice na nn nc,.map (some (w.heap.size+1+1))] 61));simpa using this
 rw[hW3];clear hW3;have c0:W3.cell? ⟨w.heap.size+1,0,none⟩=some (.slice ra rn rc):=hB.cell (o:=0) rfl;have c1:W3.cell? ⟨w.heap.size+1,1,none⟩=some (.slice na nn nc):=hB.cell (o:=1) rfl;have c2:W3.cell? ⟨w.heap.size+1,2,none⟩=some (.map (some (w.heap.size+1+1))):=hB.cell (o:=2) rfl;have cl:=hB.lt;refine bodyPost_ret (v:=.agg #[.slice ra rn rc,.slice na nn nc,.map (some (w.heap.size+1+1))]) (by simp[results,Tryz.results36,go_sem,c0,c1,c2]) rfl ?_;exact⟨_,rfl,by omega,hb3,hM⟩
theorem CofIs.kn {rs:List PR}{ns:List PN}{w0 w w':World}{KB:Nat}{X:Nat->Prop}(hb:Below w.heap.size w w')(hk:w.heap.size<=KB)(hm:MZ w' KB (fun _=>none))(h0:Below w0.heap.size w0 w):KnS rs ns w0 KB X w':=by
 have hs:=h0.size;refine⟨h0.trans (hb.mono h0.size),by omega,_,hm,?_,?_⟩
 ·intro r v h;cases h
 ·intro r v g h;cases h
structure RcS (rs:List PR) (ns:List PN) (w:World) (KB CB GB:Nat) (rv nv vl:Value) (m:List Nat) (W:World):Prop where
 kn:KnS rs ns w KB (fun g=>vl.ownBlock=some g) W
 cb:Bl W CB 61 #[rv,nv,.map (some KB)]
 gb:Bl W GB 25 #[rv,nv]
 lo:W.ownsRow w.heap.size 3 1 vl m.length (natsV m)
section
variable {rs:List PR} {ns:List PN} {w W W1 W':World} {KB CB GB:Nat} {rv nv vl v5:Value} {m:List Nat}
theorem RcS.of (h:RcS rs ns w KB CB GB rv nv vl m W)(hk:KnS rs ns w KB (fun g=>vl.ownBlock=some g) W')(hm:KM KB KB W W'):RcS rs ns w KB CB GB rv nv vl m W':=
 ⟨hk,hm.bl h.cb (h.kn.bl_ne h.cb) (h.kn.bl_ne h.cb),hm.bl h.gb (h.kn.bl_ne h.gb) (h.kn.bl_ne h.gb),hm.own h.lo (h.kn.own_ne h.lo) (h.kn.own_ne h.lo)⟩
theorem RcS.below (h:RcS rs ns w KB CB GB rv nv vl m W)(hb:Below W.heap.size W W'):RcS rs ns w KB CB GB rv nv vl m W':=h.of (h.kn.below hb) (KM.of_below hb)
theorem RcS.app {x:Nat}(h:RcS rs ns w KB CB GB rv nv vl m W)(hb:Below W.heap.size W W1)(ho:W'.ownsRow w.heap.size 3 1 v5 (m.length+1) (natsV m++[.int .i64 (x:Int)]))(hg:W1.grownBy W' vl.ownBlock)(hat:v5.ownBlock=vl.ownBlock∨v5.ownBlock=some W1.heap.size):RcS rs ns w KB CB GB rv nv v5 (m++[x]) W':=by
 have h1:=h.below hb;have hkind:∀g,vl.ownBlock=some g->∃c fz,W1.heap[g]?=some (.cells c 3 fz):=fun g e=>Lib.ownsRow_kind h1.lo g e
 refine⟨?_,h1.cb.grown hg (fun g e=>by obtain⟨c,fz,hc⟩:=hkind g e;exact⟨c,3,fz,hc,by decide⟩),h1.gb.grown hg (fun g e=>by obtain⟨c,fz,hc⟩:=hkind g e;exact⟨c,3,fz,hc,by decide⟩),?_⟩
 ·have k1:KnS rs ns w KB (fun g=>vl.ownBlock=some g∨g=W1.heap.size) W1:=h1.kn.more fun g hg=>hg.imp id fun e=>by omega
  refine(k1.grow hg h1.lo (Nat.le_refl _) (fun g e=>.inl e)).less fun g e=>?_
  rcases hat with e2|e2
  ·exact .inl (by rw[<-e2];exact e)
  ·rw[e2] at e;injection e with e;exact .inr e.symm
 ·rw[List.length_append,zel];exact ho
end
theorem zlu (rv nv:Value)(rs:List PR)(ns:List PN)(w:World)(hR:RulesIn w rv rs)(hN:NodesAt w nv ns)(hC:CapsAt w nv ns.length)(hO:LeftOk rs ns) :
  Calls Tryz.prog 13 #[.agg #[rv,nv]] w (zb5 (recW rs ns) w):=by
 have hrl:=hO.rl;obtain⟨ii,hii,hz0,hz1,hz2⟩:=info_parts za3;have HCY:=Lib.hid (fun(KB r:Nat) (X:Nat->Prop) (W:World) (hr:r<rs.length) (hK:KnS rs ns w KB X W) (hX:∀g,X g->g<W.heap.size)=>zgr w rv nv rs ns KB r X W hR hN hC hO hr hK hX);obtain⟨-,ra,rc,rfl,-⟩:=hR;obtain⟨-,na,nc,rfl,-⟩:=hN;unfold CycIs at HCY;clear hC;go_enter Tryz.func13,Tryz.ntmps13
 go_upto_region 2 with(go_at_call 36;(with_reducible refine(zen ra na _ rc _ nc _).mono ?_);rintro e w2 ⟨KB,rfl,hkb,hb2,hm2⟩;have HB2:=Lib.hid (bl_on (zab w (.cells #[.slice ra rs.length rc,.slice na ns.length nc] 25)) hb2);have HK2:=Lib.hid (CofIs.kn (rs:=rs) (ns:=ns) (w0:=w) (X:=fun _=>False) hb2 hkb hm2 (zab _ _));have HG2:=Lib.hid ((Bl.new w 25 #[.slice ra rs.length rc,.slice na ns.length nc]).below hb2);clear hkb hb2 hm2)
 obtain⟨W3,hW3⟩:∃W3,w2.alloc (.cells #[.slice ra rs.length rc,.slice na ns.length nc,.map (some KB)] 61)=W3:=⟨_,rfl⟩;have hb3:Below w2.heap.size w2 W3:=by rw[<-hW3];exact zab _ _
 have HS3:Hid (RcS rs ns w KB w2.heap.size w.heap.size (.slice ra rs.length rc) (.slice na ns.length nc) (.slice none 0 0) [] W3):=Lib.hid ⟨(HK2.out.below hb3).less (fun g e=>by cases e),by rw[<-hW3];exact Bl.new _ _ _,HG2.out.below hb3,World.ownsRow_nil _ _ _ _⟩;obtain⟨CB,hCB⟩:∃CB,w2.heap.size=CB:=⟨_,rfl⟩;rw[hCB] at HS3;rw[hW3,hCB];clear hW3 hCB HB2 HK2 HG2 hb3;have g0:W3.cell? ⟨w.heap.size,0,none⟩=some (.slice ra rs.length rc):=HS3.out.gb.cell (o:=0) rfl;have gl:=HS3.out.gb.lt;go_wp2;clear g0 gl
 go_loopw [11,4] (fun vk vl wr=>∃k:Nat,vk=.int .i64 (k:Int)/\k<=rs.length/\RcS rs ns w KB CB w.heap.size (.slice ra rs.length rc) (.slice na ns.length nc) vl ((List.range k).filter (recB rs ns)) wr) (fun vk _ _=>rs.length-(intOf vk).toNat)
 case atStart=>exact⟨0,rfl,Nat.zero_le _,HS3.out⟩
 case round=>
  clear HS3;obtain⟨k,rfl,hk,hS⟩:=hrel;obtain⟨la,lc,rfl⟩:=zad hS.lo;have hle:=zrq (recB rs ns) k;have HS:=Lib.hid hS;by_cases hlt:k<rs.length
  ·have k1:(k:Int)<(rs.length:Int):=by omega
   have c0:wr.cell? ⟨CB,0,none⟩=some (.slice ra rs.length rc):=hS.cb.cell (o:=0) rfl;have c1:wr.cell? ⟨CB,1,none⟩=some (.slice na ns.length nc):=hS.cb.cell (o:=1) rfl;have c2:wr.cell? ⟨CB,2,none⟩=some (.map (some KB)):=hS.cb.cell (o:=2) rfl;have cl:=hS.cb.lt;have HC1:=Lib.hid (HCY.out KB k _ wr hlt hS.kn (fun g e=>(hS.lo.lt g e).2));obtain⟨n,hn⟩:∃n,(cycW (zai rs ns) k).length=n:=⟨_,rfl⟩;have hrb:recB rs ns k=decide (0<n):=by unfold recB;rw[hn]
   rw[hn] at HC1;clear hS hn;by_cases h0:0<n
   ·have q1:(0:Int)<(n:Int):=by omega
    have HRB:=Lib.hid (zw9 (hrb.trans (decide_eq_true h0)));clear hrb;obtain⟨m,hm⟩:∃m,(List.range k).filter (recB rs ns)=m:=⟨_,rfl⟩;rw[hm] at HRB HS HC1 hle ⊢;clear hm
    go_wp2_with (first
     |(go_at_call 37;(with_reducible refine HC1.out.mono ?_);rintro e w4 ⟨ca,cc,rfl,hk4,-,hm4⟩;have HS4:=Lib.hid (HS.out.of hk4 hm4);have hz4:=hk4.lo.size;clear hk4 hm4)
     |(at_builtin;refine wpList_append_own_at _ rfl _ _ 29 rfl w.heap.size 3 ii (.int .i64 0) 1 8 Tryz.underlying29 hii hz0 hz1 hz2 rfl (by decide) _ m.length _ rfl (zaa HS4.out.lo (zab _ _)) ⟨w4.heap.size,0,none⟩ 1 1 [.int .i64 (k:Int)] rfl rfl (zaq _ _ _) (by simp[Value.oneCell']) (by unfold maxLen;omega) (by omega) (by simp;omega) ?_;intro v6 w6 hown' hgrow _ hat;have HS6:=Lib.hid (HS4.out.app (zab _ _) hown' hgrow hat);clear hown' hgrow hat))
    go_roundw
    case rel=>exact⟨k+1,by go_num,by omega,by rw[HRB.out];exact HS6.out⟩
    case measure=>simp[intOf];omega
   ·have q1:¬(0:Int)<(n:Int):=by omega
    have HRB:=Lib.hid (z1l (hrb.trans (decide_eq_false h0)));clear hrb;obtain⟨m,hm⟩:∃m,(List.range k).filter (recB rs ns)=m:=⟨_,rfl⟩;rw[hm] at HRB HS HC1 hle ⊢;clear hm
    go_wp2_with (go_at_call 37;(with_reducible refine HC1.out.mono ?_);rintro e w4 ⟨ca,cc,rfl,hk4,-,hm4⟩;have HS4:=Lib.hid (HS.out.of hk4 hm4);clear hk4 hm4)
    go_roundw
    case rel=>exact⟨k+1,by go_num,by omega,by rw[HRB.out];exact HS4.out⟩
    case measure=>simp[intOf];omega
  ·obtain rfl:k=rs.length:=by omega
   have k1:¬(rs.length:Int)<(rs.length:Int):=by omega
   clear hS;go_wp2;go_ret;exact⟨_,rfl,HS.out.lo,HS.out.kn.lo⟩
theorem z1m (rv nv:Value)(rs:List PR)(ns:List PN)(r:Nat)(w:World)(hR:RulesIn w rv rs)(hN:NodesAt w nv ns)(hC:CapsAt w nv ns.length)(hO:LeftOk rs ns)(hr:r<rs.length) :
  Calls Tryz.prog 15 #[.agg #[rv,nv],.int .i64 (r:Int)] w (zb5 (cycW (zai rs ns) r) w):=by
 have HCY:=Lib.hid (fun(KB:Nat) (X:Nat->Prop) (W:World) (hK:KnS rs ns w KB X W) (hX:∀g,X g->g<W.heap.size)=>zgr w rv nv rs ns KB r X W hR hN hC hO hr hK hX);obtain⟨-,ra,rc,rfl,-⟩:=hR;obtain⟨-,na,nc,rfl,-⟩:=hN;unfold CycIs at HCY;obtain⟨n,hn⟩:∃n,(cycW (zai rs ns) r).length=n:=⟨_,rfl⟩;have HNL:=Lib.hid hn;rw[hn] at HCY;clear hC hn;go_enter Tryz.func15,Tryz.ntmps15
 go_wp2_with (first
  |(go_at_call 36;(with_reducible refine(zen ra na _ rc _ nc _).mono ?_);rintro e w2 ⟨KB,rfl,hkb,hb2,hm2⟩;have HB2:=Lib.hid (bl_on (zab w (.cells #[.slice ra rs.length rc,.slice na ns.length nc] 25)) hb2);have HK2:=Lib.hid (CofIs.kn (rs:=rs) (ns:=ns) (w0:=w) (X:=fun _=>False) hb2 hkb hm2 (zab _ _));clear hkb hb2 hm2)
  |(go_at_call 37;(with_reducible refine(HCY.out KB _ _ HK2.out (fun g h=>h.elim)).mono ?_);rintro e w4 ⟨ca,cc,rfl,hk4,ho4,hm4⟩;have HK4:=Lib.hid hk4;have HO4:=Lib.hid ho4;clear hk4 ho4 hm4))
 go_ret;exact⟨.slice ca n cc,rfl,by rw[HNL.out];exact zax HO4.out HK2.out.lo.size,HK4.out.lo⟩
end
section
open Go.RowKit Go.Shelf
def z3y:Ren:=⟨fun|156=>40|165=>68|166=>69|169=>70|240=>109|241=>110|276=>145|277=>146|n=>n,fun|0=>0|3=>3|4=>4|5=>5|9=>9|20=>20|31=>64|37=>105|70=>104|72=>107|75=>41|76=>108|127=>152|80=>110|164=>189|n=>n,fun|n=>n⟩
theorem z56:Go.Proofs.Lays.n156 Tryz.prog z3y:={
 mixed:=by kernel_rfl
 f156:=Tryz.func40.trans (congrArg some (by kernel_rfl))
 f165:=Tryz.func68.trans (congrArg some (by kernel_rfl))
 f166:=Tryz.func69.trans (congrArg some (by kernel_rfl))
 f169:=Tryz.func70.trans (congrArg some (by kernel_rfl))
 f240:=Tryz.func109.trans (congrArg some (by kernel_rfl))
 f241:=Tryz.func110.trans (congrArg some (by kernel_rfl))
 f276:=Tryz.func145.trans (congrArg some (by kernel_rfl))
 f277:=Tryz.func146.trans (congrArg some (by kernel_rfl))
 t0:=Tryz.underlying0
 a0:=Tryz.isAgg0
 z0:=Tryz.sizeOf0
 v0:=Tryz.zeroValue0
 t3:=Tryz.underlying3
 a3:=Tryz.isAgg3
 z3:=Tryz.sizeOf3
 v3:=Tryz.zeroValue3
 t4:=Tryz.underlying4
 a4:=Tryz.isAgg4
 z4:=Tryz.sizeOf4
 v4:=Tryz.zeroValue4
 t9:=Tryz.underlying9
 a9:=Tryz.isAgg9
 z9:=Tryz.sizeOf9
 v9:=Tryz.zeroValue9
 t20:=Tryz.underlying20
 a20:=Tryz.isAgg20
 z20:=Tryz.sizeOf20
 v20:=Tryz.zeroValue20
 t31:=Tryz.underlying64
 a31:=Tryz.isAgg64
 z31:=Tryz.sizeOf64
 v31:=Tryz.zeroValue64
 t37:=Tryz.underlying105
 a37:=Tryz.isAgg105
 z37:=Tryz.sizeOf105
 v37:=Tryz.zeroValue105
 t70:=Tryz.underlying104
 a70:=Tryz.isAgg104
 z70:=Tryz.sizeOf104
 v70:=Tryz.zeroValue104
 t72:=Tryz.underlying107
 a72:=Tryz.isAgg107
 z72:=Tryz.sizeOf107
 v72:=Tryz.zeroValue107
 t75:=Tryz.underlying41
 a75:=Tryz.isAgg41
 z75:=Tryz.sizeOf41
 v75:=Tryz.zeroValue41
 t76:=Tryz.underlying108
 a76:=Tryz.isAgg108
 z76:=Tryz.sizeOf108
 v76:=Tryz.zeroValue108
 t127:=Tryz.underlying152
 a127:=Tryz.isAgg152
 z127:=Tryz.sizeOf152
 v127:=Tryz.zeroValue152
 t164:=Tryz.underlying189
 a164:=Tryz.isAgg189
 z164:=Tryz.sizeOf189
 v164:=Tryz.zeroValue189 }
theorem z1n:Builder.Extra Tryz.prog z3y:={
 sizeBuilder:=by kernel_rfl
 liesBuilder:=by kernel_rfl
 t5:=Tryz.underlying5
 a5:=Tryz.isAgg5
 z5:=Tryz.sizeOf5
 v5:=Tryz.zeroValue5
 infoByte:=by kernel_rfl
 cellsByte:=by kernel_rfl
 sizeByte:=by kernel_rfl
 neB5:=by decide }
theorem zxa:(Tryz.prog.info? 9).map (fun i=>(i.zero,i.size,i.bytes))=some (some (.string ⟨#[]⟩),1,16):=by kernel_rfl
def strsV (l:List ByteArray):List Value:=l.map .string
theorem zxb (l:List ByteArray)(x:ByteArray):strsV (l++[x])=strsV l++[.string x]:=by unfold strsV;rw[List.map_append];rfl
def arr13:ByteArray:=⟨#[32,60,45,32]⟩
def joinS (xs:List ByteArray):ByteArray:=⟨(Lib.join (xs.map (·.data.toList)) arr13.data.toList).toArray⟩
theorem zxc:∀(xs:List ByteArray),(∀x,x ∈ xs->x.size<=1000)->(Lib.join (xs.map (·.data.toList)) arr13.data.toList).length<=1004*xs.length
 | [],_=>by simp[Lib.join_nil]
 |x::r,h=>by
  have key:∀(l:List ByteArray),(∀x,x ∈ l->x.size<=1000)->Lib.lens (l.map (·.data.toList))<=1000*l.length:=fun l=>by
   induction l with
   |nil=>intro _;simp[Lib.lens]
   |cons y t ih=>
    intro h;have h1:=ih fun x hx=>h x (List.mem_cons_of_mem _ hx)
    have h2:=h y (List.mem_cons_self ..);have h3:y.data.toList.length=y.size:=rfl;simp[Lib.lens] at h1 ⊢;omega
  have h1:=key (x::r) h;rw[List.map_cons] at h1;rw[List.map_cons,Lib.join_length,show arr13.data.toList.length=4 from rfl,List.length_map];rw[List.length_cons] at h1 ⊢;omega
theorem ztf (base n:Nat)(a:Option Addr)(c:Nat)(xs:List ByteArray)(w:World)(hn:xs.length=n)(ho:w.ownsRow base 9 1 (.slice a n c) n (strsV xs))(h0:0<xs.length)(hl:xs.length<=1000)(hx:∀x,x ∈ xs->x.size<=1000) :
  Calls Tryz.prog 40 #[.slice a n c,.string ⟨#[32,60,45,32]⟩] w fun e w'=>e=.returned (.string (joinS xs))/\Below w.heap.size w w':=by
 subst hn;obtain⟨g,rfl,-,hc,-⟩:=zan ho h0;have hcap:xs.length<=c:=by
  obtain⟨a1,c1,he,h,-⟩:=zbj ho;injection he with _ _ e3;omega
 have hlt:g<w.heap.size:=(ho.lt g rfl).2;have:=zxc xs hx;exact Any.strings_Join z56 z1n g 0 c xs arr13 w (fun j x hj=>by
  rw[Nat.zero_add];exact hc j _ (by unfold strsV;rw[List.getElem?_map,hj];rfl)) hlt (by omega) hcap (by omega)
theorem z8o {calls:Nat->List Nat}{r n:Nat}{l:List Nat}(h:CyG calls r l)(hr:r<n)(hc:∀a x,x ∈ calls a->x<n):∀x,x ∈ l->x<n:=by
 obtain⟨h0,h1,-⟩:=zln.1 h;have key:∀(i x:Nat),l[i]?=some x->x<n:=by
  intro i;cases i with
  |zero=>intro x hx;rw[h0] at hx;cases hx;exact hr
  |succ i=>
   intro x hx;obtain⟨y,hy⟩:∃y,l[i]?=some y:=⟨_,List.getElem?_eq_getElem (by have:=(List.getElem?_eq_some_iff.1 hx).1;omega)⟩;exact hc _ _ (h1 i y x hy hx)
 intro x hx;obtain⟨j,hj,e⟩:=List.mem_iff_getElem.1 hx;exact key j x (by rw[List.getElem?_eq_getElem hj,e])
theorem zxd {rs:List PR}{ns:List PN}{r:Nat}(hr:r<rs.length):∀x,x ∈ cycW (zai rs ns) r->x<rs.length:=fun x hx=>by
 have hne:cycW (zai rs ns) r≠[]:=by intro e;rw[e] at hx;cases hx
 exact z8o (zlo hne).1 hr (fun a y hy=>zdr hy) x hx
theorem z58 {rs:List PR}{ns:List PN}{r:Nat}(hr:r<rs.length):(cycW (zai rs ns) r).length<=rs.length:=by
 by_cases hne:cycW (zai rs ns) r=[]
 ·rw[hne];exact Nat.zero_le _
 ·have hm:=zlo hne
  refine zce _ _ (zfl fun i j x=>hm.1.simple (fun m hm2=>?_) (i:=i) (j:=j) (x:=x)) (zxd hr);rcases hm.2 m hm2 with a|⟨a,-⟩<;>omega
def nameN (rs:List PR)(r:Nat):ByteArray:=match rs[r]? with
 |some x=>x.name
 |none=>⟨#[]⟩
noncomputable def explW (rs:List PR)(ns:List PN):ByteArray:=match recW rs ns with
 | []=>⟨#[]⟩
 |r::_=>joinS ((cycW (zai rs ns) r++[r]).map (nameN rs))
theorem ztg {rs:List PR}{ns:List PN}{k:Nat}(hk:k<rs.length)(hlo:∀j,j<k->recB rs ns j=false)(h:recB rs ns k=true):∃t,recW rs ns=k::t:=by
 unfold recW;have e:List.range rs.length=List.range k++(k::List.range' (k+1) (rs.length-k-1)):=by
  rw[List.range_eq_range',List.range_eq_range',show k::List.range' (k+1) (rs.length-k-1)=List.range' k (rs.length-k) by
   rw[show rs.length-k=(rs.length-k-1)+1 by omega,List.range'_succ];simp]
  have:=List.range'_append (s:=0) (m:=k) (n:=rs.length-k) (step:=1);rw[Nat.one_mul,Nat.zero_add] at this;rw[this];congr 1;omega
 refine⟨(List.range' (k+1) (rs.length-k-1)).filter (recB rs ns),?_⟩;rw[e,List.filter_append,List.filter_cons_of_pos h,List.filter_eq_nil_iff.2 (fun a ha=>by rw[hlo a (List.mem_range.1 ha)];decide)];rfl
theorem zxe {rs:List PR}{ns:List PN}(hlo:∀j,j<rs.length->recB rs ns j=false):recW rs ns=[]:=by
 unfold recW;exact List.filter_eq_nil_iff.2 (fun a ha=>by rw[hlo a (List.mem_range.1 ha)];decide)
theorem zil {rs:List PR}{ns:List PN}{k:Nat}(hk:k<rs.length)(hlo:∀j,j<k->recB rs ns j=false)(h:recB rs ns k=true):explW rs ns=joinS ((cycW (zai rs ns) k++[k]).map (nameN rs)):=by
 obtain⟨t,e⟩:=ztg hk hlo h;unfold explW;rw[e]
theorem zj1 {rs:List PR}{ns:List PN}(hlo:∀j,j<rs.length->recB rs ns j=false):explW rs ns=⟨#[]⟩:=by
 unfold explW;rw[zxe hlo]
theorem zg5 (rv nv:Value)(rs:List PR)(ns:List PN)(w:World)(hR:RulesIn w rv rs)(hN:NodesAt w nv ns)(hC:CapsAt w nv ns.length)(hO:LeftOk rs ns)(hnm:∀r,r ∈ rs->r.name.size<=1000) :
  Calls Tryz.prog 18 #[.agg #[rv,nv]] w fun e w'=>e=.returned (.string (explW rs ns))/\Below w.heap.size w w':=by
 have hrl:=hO.rl;obtain⟨ii,hii,hz0,hz1,hz2⟩:=info_parts za3;obtain⟨is,his,hs0,hs1,hs2⟩:=info_parts zxa;have HCY:=Lib.hid (fun(KB r:Nat) (X:Nat->Prop) (W:World) (hr:r<rs.length) (hK:KnS rs ns w KB X W) (hX:∀g,X g->g<W.heap.size)=>zgr w rv nv rs ns KB r X W hR hN hC hO hr hK hX);have HNM:=Lib.hid hnm;obtain⟨-,ra,rc,rfl,hra⟩:=hR;obtain⟨-,na,nc,rfl,-⟩:=hN;have HRA:=Lib.hid hra;unfold CycIs at HCY;clear hC hnm hra;go_enter Tryz.func18,Tryz.ntmps18
 go_upto_region 2 with(go_at_call 36;(with_reducible refine(zen ra na _ rc _ nc _).mono ?_);rintro e w2 ⟨KB,rfl,hkb,hb2,hm2⟩;have HB2:=Lib.hid (bl_on (zab w (.cells #[.slice ra rs.length rc,.slice na ns.length nc] 25)) hb2);have HK2:=Lib.hid (CofIs.kn (rs:=rs) (ns:=ns) (w0:=w) (X:=fun _=>False) hb2 hkb hm2 (zab _ _));have HG2:=Lib.hid ((Bl.new w 25 #[.slice ra rs.length rc,.slice na ns.length nc]).below hb2);clear hkb hb2 hm2)
 obtain⟨W3,hW3⟩:∃W3,w2.alloc (.cells #[.slice ra rs.length rc,.slice na ns.length nc,.map (some KB)] 61)=W3:=⟨_,rfl⟩;have hb3:Below w2.heap.size w2 W3:=by rw[<-hW3];exact zab _ _
 have HS3:Hid (RcS rs ns w KB w2.heap.size w.heap.size (.slice ra rs.length rc) (.slice na ns.length nc) (.slice none 0 0) [] W3):=Lib.hid ⟨(HK2.out.below hb3).less (fun g e=>by cases e),by rw[<-hW3];exact Bl.new _ _ _,HG2.out.below hb3,World.ownsRow_nil _ _ _ _⟩;obtain⟨CB,hCB⟩:∃CB,w2.heap.size=CB:=⟨_,rfl⟩;rw[hCB] at HS3;rw[hW3,hCB];clear hW3 hCB HB2 HK2 HG2 hb3;have g0:W3.cell? ⟨w.heap.size,0,none⟩=some (.slice ra rs.length rc):=HS3.out.gb.cell (o:=0) rfl;have gl:=HS3.out.gb.lt;go_wp2;clear g0 gl
 go_loopw [14] (fun vk wr=>∃k:Nat,vk=.int .i64 (k:Int)/\k<=rs.length/\(∀j,j<k->recB rs ns j=false)/\RcS rs ns w KB CB w.heap.size (.slice ra rs.length rc) (.slice na ns.length nc) (.slice none 0 0) [] wr) (fun vk _=>rs.length-(intOf vk).toNat)
 case atStart=>exact⟨0,rfl,Nat.zero_le _,fun j h=>absurd h (Nat.not_lt_zero _),HS3.out⟩
 case round=>
  clear HS3;obtain⟨k,rfl,hk,hlo,hS⟩:=hrel;have HS:=Lib.hid hS;have HLO:=Lib.hid hlo;by_cases hlt:k<rs.length
  ·have k1:(k:Int)<(rs.length:Int):=by omega
   have c0:wr.cell? ⟨CB,0,none⟩=some (.slice ra rs.length rc):=hS.cb.cell (o:=0) rfl;have c1:wr.cell? ⟨CB,1,none⟩=some (.slice na ns.length nc):=hS.cb.cell (o:=1) rfl;have c2:wr.cell? ⟨CB,2,none⟩=some (.map (some KB)):=hS.cb.cell (o:=2) rfl;have cl:=hS.cb.lt;have HC1:=Lib.hid (HCY.out KB k (fun g=>(Value.slice none 0 0).ownBlock=some g) wr hlt hS.kn (fun g e=>by cases e));have hwz:=hS.kn.lo.size;obtain⟨cy,hcy⟩:∃cy,cycW (zai rs ns) k=cy:=⟨_,rfl⟩;have hrb:recB rs ns k=decide (0<cy.length):=by unfold recB;rw[hcy]
   have hcl:cy.length<=30:=by rw[<-hcy];exact Nat.le_trans (z58 hlt) hrl
   have HCL:Hid (∀x,x ∈ cy->x<rs.length):=Lib.hid (by rw[<-hcy];exact zxd hlt);rw[hcy] at HC1;have HCE:=Lib.hid hcy;clear hS hcy hlo;by_cases h0:0<cy.length
   ·have q1:((cy.length:Int) == 0)=false:=by rw[beq_eq_false_iff_ne];omega
    have HEX:=Lib.hid (zil hlt HLO.out (hrb.trans (decide_eq_true h0)));rw[HCE.out] at HEX;obtain⟨m,hm⟩:∃m,cy++[k]=m:=⟨_,rfl⟩;have hml:m.length=cy.length+1:=by rw[<-hm,List.length_append];rfl
    have HML:Hid (∀x,x ∈ m->x<rs.length):=Lib.hid (fun x hx=>by
     rw[<-hm] at hx;rcases List.mem_append.1 hx with h|h
     ·exact HCL.out x h
     ·rw[List.mem_singleton.1 h];exact hlt)
    rw[hm] at HEX;have HM:=Lib.hid hm;clear hrb hm
    go_wp2_with (first
     |(go_at_call 37;(with_reducible refine HC1.out.mono ?_);rintro e w4 ⟨ca,cc,rfl,hk4,ho4,hm4⟩;have HS4:=Lib.hid (HS.out.of hk4 hm4);have HO4:=Lib.hid ho4;have hz4:=hm4.size;clear hk4 hm4 ho4)
     |(at_builtin;refine wpList_append_own_at _ rfl _ _ 29 rfl wr.heap.size 3 ii (.int .i64 0) 1 8 Tryz.underlying29 hii hz0 hz1 hz2 rfl (by decide) _ cy.length _ rfl (zaa HO4.out (zab _ _)) ⟨w4.heap.size,0,none⟩ 1 1 [.int .i64 (k:Int)] rfl rfl (zaq _ _ _) (by simp[Value.oneCell']) (by unfold maxLen;omega) (by omega) (by simp;omega) ?_;intro v6 w6 hown' hgrow _ hat;rw[<-zel,HM.out,<-hml] at hown';obtain⟨va,vc,rfl⟩:=zad hown';have HV6:=Lib.hid hown';have HG6:=Lib.hid ((HS4.out.gb.below (zab _ (.cells #[.int .i64 (k:Int)] 3))).grown hgrow (fun g e=>by obtain⟨c,fz,hc⟩:=Lib.ownsRow_kind (zaa HO4.out (zab w4 (.cells #[.int .i64 (k:Int)] 3))) g e;exact⟨c,3,fz,hc,by decide⟩));have HL6:=Lib.hid ((HS4.out.kn.lo.trans ((zab w4 (.cells #[.int .i64 (k:Int)] 3)).mono HS4.out.kn.lo.size)).grown hgrow (by have:=HS4.out.kn.lo.size;simp;omega) (fun g e=>by have:=(HO4.out.lt g e).1;omega));clear hown' hgrow hat))
    clear c0 c1 c2 cl HS HS4 HO4 HC1;obtain⟨w8,rfl⟩:∃w8,w8=w6:=⟨_,rfl⟩;rw[hml] at HV6;obtain⟨wo,rfl⟩:∃wo,wo=wr:=⟨_,rfl⟩
    go_loopw [28,6] (fun vi vs wr=>∃i:Nat,vi=.int .i64 (i:Int)/\i<=cy.length+1/\wr.ownsRow w8.heap.size 9 1 vs i (strsV ((m.take i).map (nameN rs)))/\Below w8.heap.size w8 wr) (fun vi _ _=>cy.length+1-(intOf vi).toNat)
    case atStart=>exact⟨0,rfl,Nat.zero_le _,World.ownsRow_nil _ _ _ _,Below.refl _ _⟩
    case round=>
     obtain⟨i,rfl,hi,ho,hb⟩:=hrel;obtain⟨sa,sc,rfl⟩:=zad ho;have HO:=Lib.hid ho;have HB:=Lib.hid hb;by_cases hil:i<cy.length+1
     ·obtain⟨x,hx⟩:∃x,m[i]?=some x:=⟨_,List.getElem?_eq_getElem (by omega)⟩
      have hxr:=HML.out x (List.mem_of_getElem? hx);obtain⟨rx,hrx⟩:∃rx,rs[x]?=some rx:=⟨_,List.getElem?_eq_getElem hxr⟩;obtain⟨vg,rfl,-,hcv,-⟩:=zan HV6.out (by omega);have cx:=hcv i _ (zez hx);have lx:=zac cx;rw[<-(bcell hb).1 _ _ lx] at cx;have lx2:=zac cx;have hg:=HG6.out.below hb;have g0:wr.cell? ⟨w.heap.size,0,none⟩=some (.slice ra rs.length rc):=hg.cell (o:=0) rfl;have gl:=hg.lt;rcases HRA.out with h|⟨rb,ro,rfl,hca⟩
      ·rw[h] at hlt;exact absurd hlt (Nat.not_lt_zero _)
      obtain⟨r0,-⟩:=hca x rx hrx;have lr:=zac r0;have hbw:=HL6.out.trans (hb.mono HL6.out.size);rw[<-(bcell hbw).1 _ _ lr] at r0;have lr2:=zac r0;have hz:=hb.size;have i1:(i:Int)<(cy.length:Int)+1:=by omega
      have i2:(x:Int)<(rs.length:Int):=by omega
      have HTK:Hid ((m.take (i+1)).map (nameN rs)=(m.take i).map (nameN rs)++[rx.name]):=Lib.hid (by
       rw[List.take_add_one,hx];show List.map _ (m.take i++[x])=_;rw[List.map_append];show _++[nameN rs x]=_;unfold nameN;rw[hrx])
      clear ho hb hcv hx hrx hg hca hbw hxr
      go_wp2_with (at_builtin;refine wpList_append_own_at _ rfl _ _ 64 rfl w8.heap.size 9 is (.string ⟨#[]⟩) 1 16 Tryz.underlying64 his hs0 hs1 hs2 rfl (by decide) _ i _ rfl (zaa HO.out (zab _ _)) ⟨wr.heap.size,0,none⟩ 1 1 [.string rx.name] rfl rfl (zaq _ _ _) (by simp[Value.oneCell']) (by unfold maxLen;omega) (by omega) (by simp;omega) ?_;intro v9 w9 hown' hgrow _ hat;have HO9:=Lib.hid hown';have HB9:=Lib.hid ((zar (o:=.cells #[.string rx.name] 9) HB.out).grown hgrow (zar HB.out).size (fun g e=>(HO.out.lt g e).1));clear hown' hgrow hat)
      go_roundw
      case rel=>exact⟨i+1,by go_num,by omega,by rw[HTK.out,zxb];exact HO9.out,HB9.out⟩
      case measure=>simp[intOf];omega
     ·obtain rfl:i=cy.length+1:=by omega
      have i1:¬(cy.length:Int)+1<(cy.length:Int)+1:=by omega
      have i2:¬((cy.length+1:Nat):Int)<(cy.length:Int)+1:=by omega
      have hmt:m.take (cy.length+1)=m:=by rw[<-hml,List.take_length]
      rw[hmt] at ho;have hnl:(m.map (nameN rs)).length=cy.length+1:=by rw[List.length_map,hml]
      have HJ:=Lib.hid (ztf w8.heap.size (cy.length+1) sa sc (m.map (nameN rs)) wr hnl ho (by omega) (by omega) (fun n hn=>by
       obtain⟨x,hx,rfl⟩:=List.mem_map.1 hn;obtain⟨rx,hrx⟩:∃rx,rs[x]?=some rx:=⟨_,List.getElem?_eq_getElem (HML.out x hx)⟩;unfold nameN;rw[hrx];exact HNM.out rx (List.mem_of_getElem? hrx)))
      rw[<-HEX.out] at HJ;clear ho hb hmt hnl
      go_wp2_with (go_at_call 40;(with_reducible refine HJ.out.mono ?_);rintro e wj ⟨rfl,hbj⟩;have HBJ:=Lib.hid hbj;clear hbj)
      go_ret;exact⟨rfl,bl_on (bl_on HL6.out HB.out) HBJ.out⟩
   ·have q1:((cy.length:Int) == 0)=true:=by rw[beq_iff_eq];omega
    have HRB:=Lib.hid (hrb.trans (decide_eq_false h0));clear hrb
    go_wp2_with (go_at_call 37;(with_reducible refine HC1.out.mono ?_);rintro e w4 ⟨ca,cc,rfl,hk4,-,hm4⟩;have HS4:=Lib.hid (HS.out.of hk4 hm4);clear hk4 hm4)
    go_roundw
    case rel=>exact⟨k+1,by go_num,by omega,fun j hj=>by
     rcases Nat.lt_or_ge j k with h|h
     ·exact HLO.out j h
     ·rw[show j=k by omega];exact HRB.out,HS4.out⟩
    case measure=>simp[intOf];omega
  ·obtain rfl:k=rs.length:=by omega
   have k1:¬(rs.length:Int)<(rs.length:Int):=by omega
   have HEX:=Lib.hid (zj1 HLO.out);clear hS hlo;go_wp2;go_ret;exact⟨by rw[HEX.out];rfl,HS.out.kn.lo⟩
end
end Go.Proofs.YthhppmehhdlmnaaGreatDoor
