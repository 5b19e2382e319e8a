/- resolve.Of. Written by wip/gen/resof.py. What a file that is parsed has: bounds, and calls in the order of their nodes. No walk. -/
import Derived.Test.YtmopdlbpkiaoeaaGreatDoorPkK
import Derived.Test.YtmopdlbpkiaoeaaGreatDoorPkResGram
set_option maxRecDepth 100000
set_option maxHeartbeats 8000000
namespace Go.Proofs.YtmopdlbpkiaoeaaGreatDoor
section
open Go.RowKit
structure FileOk (rs:List (List Nat × Nat × Int)) (f:MF):Prop where
 ok:COk f
 rl:rs.length<=10000000
 cl:f.calls.length<=100000000
 nl:f.nodes.length<=100000000
 kl:∀n,n ∈ f.nodes->n.kids.length<=100000000
 rn:∀r,r ∈ rs->r.1.length<=2000000
 cn:∀r,r ∈ f.calls->r.1.length<=2000000
theorem FileOk.rs {rs:List (List Nat × Nat × Int)}{f:MF}(h:FileOk rs f):∀x,x ∈ nmR rs->x.size<=2000000:=fun x hx=>by
 obtain⟨r,hr,rfl⟩:=List.mem_map.1 hx;rw[zb0];exact h.rn r hr
theorem FileOk.cs {rs:List (List Nat × Nat × Int)}{f:MF}(h:FileOk rs f):∀x,x ∈ nmC f->x.size<=2000000:=fun x hx=>by
 obtain⟨r,hr,rfl⟩:=List.mem_map.1 hx;rw[zb0];exact h.cn r hr
def GramOk (rs:List PR)(ns:List PN)(w:World)(e:Ending)(w':World):Prop:=∃rv nv qs,e=.returned (.tuple #[.agg #[rv,nv],.nilIface])/\w'.ownsRow w.heap.size 32 2 rv rs.length (zb5 rs)/\NRow w.heap.size nv ns qs w'/\Below w.heap.size w w'
theorem WrongIs.some {x:List Nat × Nat}{c:Int}{w w':World}{e:Ending}{o:Option (List Nat × Nat)}(ho:o=.some x)(h:WrongIs o c w e w'):e=.returned (.tuple #[.string (strOf x.1),.iface 160 (.agg #[.int .i64 c,.int .i64 (x.2:Int)])])/\Below w.heap.size w w':=by subst ho;exact h
theorem WrongIs.none {c:Int}{w w':World}{e:Ending}{o:Option (List Nat × Nat)}(ho:o=.none)(h:WrongIs o c w e w'):e=.returned (.tuple #[.string ⟨#[]⟩,.nilIface])/\Below w.heap.size w w':=by subst ho;exact h
theorem zfn {W:World}{base n B:Nat}{e t:TypeId}{size:Nat}{v u1 u2:Value}{xs:List Value}{cs:Array Value}(h:W.ownsRow base e size v n xs)(hB:Bl W B t cs)(he:e≠t):((W.setCell ⟨B,0,none⟩ u1).setCell ⟨B,1,none⟩ u2).ownsRow base e size v n xs:=
 ownsRow_setCell_other (ownsRow_setCell_other h (a:=⟨B,0,none⟩) (zaq h hB he) u1) (a:=⟨B,1,none⟩) (zaq h hB he) u2
theorem of_ok (rv nv cv:Value)(rs:List (List Nat × Nat × Int))(f:MF)(w:World)(h:FileIn w rv nv cv rs f)(hK:FileOk rs f)(hd:dupO rs=none)(hu:undO (nmR rs) f=none) :
  Calls Tryz.prog 34 #[.agg #[rv,nv,cv]] w (GramOk (zam rs) (zan (nmR rs) (nmC f) f.nodes) w):=by
 have HOK:=Lib.hid hK;have HD:=Lib.hid hd;have HU:=Lib.hid hu;clear hd hu;obtain⟨hm,⟨a1,c1,rfl,hc1,ha1⟩,⟨hm2,a2,c2,rfl,ha2⟩,a3,c3,rfl,hc3,ha3⟩:=h;have hfi:FileIn w (.slice a1 rs.length c1) (.slice a2 f.nodes.length c2) (.slice a3 f.calls.length c3) rs f:=⟨hm,⟨a1,c1,rfl,hc1,ha1⟩,⟨hm2,a2,c2,rfl,ha2⟩,a3,c3,rfl,hc3,ha3⟩;have HI:=Lib.hid hfi;clear hm hc1 ha1 hm2 ha2 hc3 ha3 hfi hK;have HX0:Hid (Bl ((w.alloc (.cells #[.slice a1 rs.length c1,.slice a2 f.nodes.length c2,.slice a3 f.calls.length c3] 46)).alloc (.cells #[.slice none 0 0,.slice none 0 0] 25)) w.heap.size 46 #[.slice a1 rs.length c1,.slice a2 f.nodes.length c2,.slice a3 f.calls.length c3]):=Lib.hid (Bl.new w _ _).past;have HG0:Hid (Bl ((w.alloc (.cells #[.slice a1 rs.length c1,.slice a2 f.nodes.length c2,.slice a3 f.calls.length c3] 46)).alloc (.cells #[.slice none 0 0,.slice none 0 0] 25)) (w.heap.size+1) 25 #[.slice none 0 0,.slice none 0 0]):=Lib.hid (Bl.new' (by simp));have HB0:=Lib.hid (zbo w (.cells #[.slice a1 rs.length c1,.slice a2 f.nodes.length c2,.slice a3 f.calls.length c3] 46) (.cells #[.slice none 0 0,.slice none 0 0] 25));have HI0:=Lib.hid (HI.out.below HB0.out);go_enter Tryz.func34,Tryz.ntmps34
 go_upto_region 1 with fail
 obtain⟨W0,hW0⟩:∃W0,(w.alloc (.cells #[.slice a1 rs.length c1,.slice a2 f.nodes.length c2,.slice a3 f.calls.length c3] 46)).alloc (.cells #[.slice none 0 0,.slice none 0 0] 25)=W0:=⟨_,rfl⟩;rw[hW0] at HX0 HG0 HB0 HI0;rw[hW0];clear hW0;have c0:=HX0.out.cell (o:=0) (u:=.slice a1 rs.length c1) rfl;have c1':=HX0.out.cell (o:=1) (u:=.slice a2 f.nodes.length c2) rfl;have c2':=HX0.out.cell (o:=2) (u:=.slice a3 f.calls.length c3) rfl;have cl:=HX0.out.lt
 go_wp2_with (first
  |(go_at_call 57;(with_reducible refine(zdg _ _ _ _ _ _ HI0.out (by have:=HOK.out.rl;omega)).mono ?_);rintro e w1 ⟨v1,rfl,hown,hb⟩;have HS:=Lib.hid (StrsAt.of_own hown);clear hown;have HX1:=Lib.hid (HX0.out.below hb);have HG1:=Lib.hid (HG0.out.below hb);have HI1:=Lib.hid (HI0.out.below hb);have HB1:=Lib.hid (HB0.out.trans (hb.mono HB0.out.size));  clear hb;clear c0 c1' c2' cl;have c0:=HX1.out.cell (o:=0) (u:=.slice a1 rs.length c1) rfl;have c1':=HX1.out.cell (o:=1) (u:=.slice a2 f.nodes.length c2) rfl;have c2':=HX1.out.cell (o:=2) (u:=.slice a3 f.calls.length c3) rfl;have cl:=HX1.out.lt)
  |(go_at_call 56;(with_reducible refine(zdf _ _ _ HS.out (by rw[zdv];have:=HOK.out.rl;omega) HOK.out.rs).mono ?_);rintro e w2 ⟨b,rfl,hF,-,hb⟩;have HF2:=Lib.hid hF;clear hF;have HX2:=Lib.hid (HX1.out.below hb);have HG2:=Lib.hid (HG1.out.below hb);have HI2:=Lib.hid (HI1.out.below hb);have HB2:=Lib.hid (HB1.out.trans (hb.mono HB1.out.size));  clear hb;clear c0 c1' c2' cl;have c0:=HX2.out.cell (o:=0) (u:=.slice a1 rs.length c1) rfl;have c1':=HX2.out.cell (o:=1) (u:=.slice a2 f.nodes.length c2) rfl;have c2':=HX2.out.cell (o:=2) (u:=.slice a3 f.calls.length c3) rfl;have cl:=HX2.out.lt)
  |(go_at_call 59;(with_reducible refine(zqc _ _ _ _ _ _ _ HI2.out (by have:=HOK.out.rl;omega) HOK.out.rn HF2.out).mono ?_);intro e w3 hwr;obtain⟨he,hb⟩:=hwr.none HD.out;subst he;clear hwr;have HF3:=Lib.hid (HF2.out.below hb);have HX3:=Lib.hid (HX2.out.below hb);have HG3:=Lib.hid (HG2.out.below hb);have HI3:=Lib.hid (HI2.out.below hb);have HB3:=Lib.hid (HB2.out.trans (hb.mono HB2.out.size));  clear hb;clear c0 c1' c2' cl;have c0:=HX3.out.cell (o:=0) (u:=.slice a1 rs.length c1) rfl;have c1':=HX3.out.cell (o:=1) (u:=.slice a2 f.nodes.length c2) rfl;have c2':=HX3.out.cell (o:=2) (u:=.slice a3 f.calls.length c3) rfl;have cl:=HX3.out.lt)
  |(go_at_call 58;(with_reducible refine(zki _ _).mono ?_);rintro e w5 ⟨rfl,hw5⟩;obtain rfl:=hw5.symm;clear hw5)
  |(go_at_call 60;(with_reducible refine(zxg _ _ _ _ _ _ _ _ HI3.out HOK.out.cl HOK.out.cn HF3.out).mono ?_);intro e w4 hwr;obtain⟨he,hb⟩:=hwr.none HU.out;subst he;clear hwr;have HF4:=Lib.hid (HF3.out.below hb);have HX4:=Lib.hid (HX3.out.below hb);have HG4:=Lib.hid (HG3.out.below hb);have HI4:=Lib.hid (HI3.out.below hb);have HB4:=Lib.hid (HB3.out.trans (hb.mono HB3.out.size));  clear hb;clear c0 c1' c2' cl;have c0:=HX4.out.cell (o:=0) (u:=.slice a1 rs.length c1) rfl;have c1':=HX4.out.cell (o:=1) (u:=.slice a2 f.nodes.length c2) rfl;have c2':=HX4.out.cell (o:=2) (u:=.slice a3 f.calls.length c3) rfl;have cl:=HX4.out.lt)
  |(go_at_call 61;(with_reducible refine(z0u _ _ _ _ _ _ _ HI4.out HOK.out.ok HOK.out.rl HOK.out.nl HOK.out.kl HOK.out.rn HOK.out.cn HF4.out).mono ?_);rintro e w6 ⟨rv6,nv6,qs6,rfl,hR,hN,hb⟩;have HR6:=Lib.hid (za2 hR HB4.out.size);have HN6:Hid (NRow w.heap.size nv6 (zan (nmR rs) (nmC f) f.nodes) qs6 w6):=Lib.hid ⟨hN.1,za2 hN.2.1 HB4.out.size,fun j n q x y=>za2 (hN.2.2 j n q x y) HB4.out.size⟩;clear hR hN;obtain⟨ra6,rc6,rfl⟩:=zag HR6.out;obtain⟨na6,nc6,rfl⟩:=zag HN6.out.2.1;have HG6:=Lib.hid (HG4.out.below hb);have HB6:=Lib.hid (HB4.out.trans (hb.mono HB4.out.size));clear hb c0 c1' c2' cl;have g0:=HG6.out.cell (o:=0) (u:=.slice none 0 0) rfl;have g1:=HG6.out.cell (o:=1) (u:=.slice none 0 0) rfl;have gf:=HG6.out.free;have gl:=HG6.out.lt))
 refine bodyPost_ret (v:=.tuple #[.agg #[.slice ra6 (zam rs).length rc6,.slice na6 (zan (nmR rs) (nmC f) f.nodes).length nc6],.nilIface]) (by simp[results,Tryz.results34,go_sem,g0,g1]) rfl ?_;exact⟨_,_,qs6,rfl,zfn HR6.out HG6.out (by decide),⟨HN6.out.1,zfn HN6.out.2.1 HG6.out (by decide),fun j n q x y=>zfn (HN6.out.2.2 j n q x y) HG6.out (by decide)⟩,(HB6.out.setCell (p:=⟨w.heap.size+1,0,none⟩) (Nat.le_succ _) _).setCell (p:=⟨w.heap.size+1,1,none⟩) (Nat.le_succ _) _⟩
end
section
theorem z0v (l:List Nat):∀(n p:Nat),p<=l.length->l.length-p<=n->∀t,t ∈ strm l p->t.text.length<=l.length:=by
 intro n
 induction n with
 |zero=>
  intro p hp hn t ht;cases h:nextL l p with
  |error k=>rw[zcg h] at ht;obtain rfl:=List.mem_singleton.1 ht;exact Nat.zero_le _
  |ok y=>
   obtain⟨u,m⟩:=y;have hx:=(zfk l p u m h).1;rcases za6 l p hp u m h with⟨h0,hm⟩|⟨h0,h1,h2⟩
   ·rw[zbt h h0] at ht
    obtain rfl:=List.mem_singleton.1 ht;omega
   ·omega
 |succ n ih=>
  intro p hp hn t ht;cases h:nextL l p with
  |error k=>rw[zcg h] at ht;obtain rfl:=List.mem_singleton.1 ht;exact Nat.zero_le _
  |ok y=>
   obtain⟨u,m⟩:=y;have hx:=(zfk l p u m h).1;rcases za6 l p hp u m h with⟨h0,hm⟩|⟨h0,h1,h2⟩
   ·rw[zbt h h0] at ht
    obtain rfl:=List.mem_singleton.1 ht;omega
   ·rw[zbe h h0 ⟨h1,h2⟩] at ht
    rcases List.mem_cons.1 ht with rfl|ht
    ·omega
    ·exact ih m h2 (by omega) t ht
theorem zts {st:Bool}{F:List Tok->MF->PO}(hG:Grow 0 2 F){ts a:List Tok}{f g:MF}(h:defL st F ts f=.ok a g):g.nodes.length+wt a<=f.nodes.length+wt ts:=by
 unfold defL at h;split at h
 ·rename_i k1
  have t1:=zcq (ts:=ts) (by omega);obtain⟨b,k,hb,hk⟩:=zcr h;have e1:b=ts.tail/\k=f:=by
   unfold acc at hb;split at hb
   ·cases hb
   ·cases hb;exact⟨rfl,rfl⟩
  obtain⟨rfl,rfl⟩:=e1;split at hk
  ·rename_i k2
   have t2:=zcq (ts:=ts.tail) (by omega);obtain⟨c,j,hc,hj⟩:=zcr hk;have e2:c=ts.tail.tail/\j=k:=by
    unfold acc at hc;split at hc
    ·cases hc
    ·cases hc;exact⟨rfl,rfl⟩
   obtain⟨rfl,rfl⟩:=e2;have hg:=hG ts.tail.tail j;rw[hj] at hg;have:=hg.2.2.2.2.1;omega
  ·cases hk
 ·cases h
theorem zk9 {st:Bool}{F:List Tok->MF->PO}(hG:Grow 0 2 F):∀(n:Nat) (ts:List Tok) (f g:MF) (rs rs':List (List Nat × Nat × Int)),defsL st F n ts f rs=.ok rs' g->g.nodes.length<=f.nodes.length+wt ts
 |0,_,_,_,_,_,h=>by cases h
 |n+1,ts,f,g,rs,rs',h=>by
  unfold defsL at h;cases hd:defL st F ts f with
  |bad a dp=>rw[hd] at h;cases h
  |ok a k=>
   have hc:=zts hG hd;rw[hd] at h;dsimp only at h;by_cases h0:kd a=0
   ·rw[if_pos h0] at h
    cases h;omega
   ·rw[if_neg h0] at h
    have:=zk9 hG n a k g _ _ h;omega
def TxB (B:Nat)(t:Tok):Prop:=t.text.length<=B
def FiQ (B:Nat)(f:MF):Prop:=COk f/\(∀n,n ∈ f.nodes->n.kids.length<=B)/\∀c,c ∈ f.calls->c.1.length<=B
theorem z6x (B:Nat)(hB:1<=B):Stp B (TxB B) (FiQ B) where
 add f n h hn hk:=⟨h.1.add hn,fun m hm=>by
  rcases List.mem_append.1 hm with hm|hm
  ·exact h.2.1 m hm
  ·obtain rfl:=List.mem_singleton.1 hm
   exact hk,h.2.2⟩
 call f t h ht _:=⟨h.1.call t,fun m hm=>by
  rcases List.mem_append.1 hm with hm|hm
  ·exact h.2.1 m hm
  ·obtain rfl:=List.mem_singleton.1 hm
   exact Nat.zero_le _,fun c hc=>by
  rcases List.mem_append.1 hc with hc|hc
  ·exact h.2.2 c hc
  ·obtain rfl:=List.mem_singleton.1 hc
   exact ht⟩
 txt _ h:=h
 pos:=hB
theorem zb9 {s:ByteArray}{rs:List (List Nat × Nat × Int)}{f:MF}(hs:s.size<=1050000)(h:zaz (bts s)=.ok rs f):FileOk rs f:=by
 have hb:=zns hs h;have hl:=zri s;have hr:=zlz _ _ _ _ _ _ h;have hn:=zk9 (Gr.expr 200 true) _ _ _ _ _ _ h;obtain⟨hw,-,-⟩:=zfl (bts s) _ 0 (Nat.zero_le _) (Nat.le_refl _);rw[zaj] at hw;have e1:([]:List (List Nat × Nat × Int)).length=0:=rfl;have e2:(⟨[],[]⟩:MF).nodes.length=0:=rfl;have hT:TkA 1050002 (TxB 1050002) (strm (bts s) 0):=⟨by omega,fun t ht=>by
  have:=z0v (bts s) _ 0 (Nat.zero_le _) (Nat.le_refl _) t ht;rw[zaj] at this;show t.text.length<=_;omega⟩
 obtain⟨h1,h2,h3,h4⟩:=z0t (z6x 1050002 (by decide)) ⟨COk.nil,(fun n hn=>by cases hn),(fun c hc=>by cases hc)⟩ hT h;exact⟨h2,by omega,hb.2,by omega,fun n hn=>by have:=h3 n hn;omega,fun r hr=>by
  obtain⟨t,ht,-,e,-⟩:=h1 r hr;rw[e];have:t.text.length<=1050002:=ht;omega,fun r hr=>by have:=h4 r hr;omega⟩
end
end Go.Proofs.YtmopdlbpkiaoeaaGreatDoor
