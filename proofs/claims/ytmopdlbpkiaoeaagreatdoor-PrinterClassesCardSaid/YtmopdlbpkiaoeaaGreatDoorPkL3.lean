/- Rules for the walk: a comparison of two sets, or of two runs, as one operation. The law PrinterClasses. -/
import Derived.Test.YtmopdlbpkiaoeaaGreatDoorPkB
import Derived.Test.YtmopdlbpkiaoeaaGreatDoorPkP
import Derived.Test.YtmopdlbpkiaoeaaGreatDoorPkPM
import Derived.Test.YtmopdlbpkiaoeaaGreatDoorPkPrnRCls
import Derived.Test.YtmopdlbpkiaoeaaGreatDoorPkPK
set_option maxRecDepth 100000
set_option maxHeartbeats 8000000
namespace Go.Proofs.YtmopdlbpkiaoeaaGreatDoor
def nums (k:IntKind):List Value->Option (List Int)
 | []=>some []
 |.int k' n::r=>if k'=k then (nums k r).map (n :: ·) else none
 |_::_=>none
theorem yaeb {k:IntKind}:∀ {l:List Value} {ns:List Int},nums k l=some ns->l=ns.map (Value.int k)
 | [],ns,h=>by cases h;rfl
 |v::r,ns,h=>by
  cases v<;>simp only[nums] at h<;>try cases h
  split at h
  ·rename_i e
   subst e;cases hr:nums _ r with
   |none=>rw[hr] at h;cases h
   |some m=>rw[hr] at h;cases h;rw[yaeb hr];rfl
  ·cases h
def yaft (k:IntKind):Value->Option (List Int)
 |.agg cs=>nums k cs.toList
 |_=>none
theorem yack {k:IntKind}{v:Value}{ns:List Int}(h:yaft k v=some ns):v=.agg (ns.map (Value.int k)).toArray:=by
 cases v<;>simp only[yaft] at h<;>try cases h
 rw[<-yaeb h]
def eq4 (x y:Value):Option Bool:=
 match yaft .u64 x,yaft .u64 y with
 |some [a,b,c,d],some [a',b',c',d']=>some (a == a'&&(b == b'&&(c == c'&&d == d')))
 |_,_=>none
theorem yal4 (a b c d a' b' c' d':Int):eq4 (.agg #[.int .u64 a,.int .u64 b,.int .u64 c,.int .u64 d]) (.agg #[.int .u64 a',.int .u64 b',.int .u64 c',.int .u64 d'])=some (a == a'&&(b == b'&&(c == c'&&d == d'))):=rfl
def yaid (r:Option Bool)(w:World)(f:Bool->Bool)(x:Result Next):Result Next:=
 match r with
 |some b=>.ok (.value (.bool (f b))) w
 |none=>x
theorem yaez (b:Bool)(w:World)(f:Bool->Bool)(x:Result Next):yaid (some b) w f x=.ok (.value (.bool (f b))) w:=rfl
def yajo (P:Program)(a:Act)(o:Oper)(w:World):Result Next:=(execOp a.eval o).run P w
theorem yaie (a:Act)(dst:Option Tmp)(x y:Operand)(u ty:TypeId)(pos:String)(after:Array Edge)(guard:Option (Nat × Bool))(w:World) :
  (execOp a.eval ⟨dst,.binOp .eql 41 x y u,ty,pos,after,guard⟩).run Tryz.prog w=yaid (eq4 (a.eval x) (a.eval y)) w id (yajo Tryz.prog a ⟨dst,.binOp .eql 41 x y u,ty,pos,after,guard⟩ w):=by
 unfold yaid;split
 ·rename_i b h
  unfold eq4 at h;split at h
  ·rename_i hx hy
   have hx:=yack hx;have hy:=yack hy;injection h with h;subst h;exact yae9 .eql 41 u x y rfl _ _ hx hy yagx _ (yaef _ _ _ _ _ _ _ _ _)
  ·cases h
 ·rfl
section
open Go.RowKit
attribute [local go_sem ↓] yaie
attribute [local go_sem] yal4 yaez
theorem yaec (f:Nat->Bool):(clsX f).length<=2400:=by
 have:=yadb f;have:=yaab f 256;omega
theorem yajp (f:Nat->Bool)(W:World)(hl:SignsAt W):Calls Tryz.prog 18 #[.string (strOf (clsX f))] W fun e w'=>∃va vc na nc ca cc,e=.returned (.tuple #[.agg #[.slice va 1 vc,.slice na 1 nc,.slice ca 0 cc],.nilIface])/\NodesAt w' (.slice na 1 nc) [clsN f]/\Below W.heap.size W w':=by
 have h:=z96 (strOf (clsX f)) W hl (by rw[zb0];have:=yaec f;omega);obtain⟨⟨g,h1,h2,h3⟩,-⟩:=yacb f;rw[zf7 _ (yace f),yag2,h1] at h;refine h.mono fun e w' h=>?_
 obtain⟨rv,nv,cv,qs,rfl,k1,k2,k3,k4⟩:=h;rw[h2] at k1;rw[h3] at k2;obtain⟨va,vc,rfl⟩:=zag k3;obtain⟨na,nc,rfl⟩:=zag k1.2.1;obtain⟨ca,cc,rfl⟩:=zag k2;exact⟨va,vc,na,nc,ca,cc,rfl,k1.nodes (by show 1<=maxLen;decide) (fun n hn=>by rw[List.mem_singleton.1 hn];exact Nat.zero_le _),k4⟩
theorem yaif (f:Nat->Bool)(W:World)(hl:SignsAt W):Calls Tryz.prog 19 #[.string (strOf (clsX f))] W fun e w'=>∃a cap,e=.returned (.tuple #[.slice a 2 cap,.nilIface])/\Below W.heap.size W w':=by
 have h:=zpv (strOf (clsX f)) W (by rw[zb0];have:=yaec f;omega) hl;obtain⟨-,t,e0,h1⟩:=yacb f;rw[zf7 _ (yace f)] at h;refine h.mono fun e w' hh=>?_
 unfold PToksIs at hh;rw[h1] at hh;obtain⟨v,rfl,ho,hb⟩:=hh;obtain⟨a,cap,rfl⟩:=zag ho;exact⟨a,cap,rfl,hb⟩
theorem clsK {b1 b2 b3 o3 m0:Nat}{u0 u1 u2 u3 u4 v0 v1 v2 v3 v4:Value}{wr W W':World}(hm:m0<=wr.heap.size)(hb:Below W.heap.size W W')(h:(W.cell? ⟨b1,0,none⟩=some u0/\W.cell? ⟨b1,1,none⟩=some u1/\W.cell? ⟨b1,2,none⟩=some u2/\W.cell? ⟨b1,3,none⟩=some u3)/\W.cell? ⟨b2,1,none⟩=some u4/\(W.cell? ⟨b3,o3,none⟩=some v0/\W.cell? ⟨b3,o3+3,none⟩=some v1/\W.cell? ⟨b3,o3+4,none⟩=some v2/\W.cell? ⟨b3,o3+5,none⟩=some v3/\W.cell? ⟨b3,o3+6,none⟩=some v4)/\Below m0 wr W) :
  (W'.cell? ⟨b1,0,none⟩=some u0/\W'.cell? ⟨b1,1,none⟩=some u1/\W'.cell? ⟨b1,2,none⟩=some u2/\W'.cell? ⟨b1,3,none⟩=some u3)/\W'.cell? ⟨b2,1,none⟩=some u4/\(W'.cell? ⟨b3,o3,none⟩=some v0/\W'.cell? ⟨b3,o3+3,none⟩=some v1/\W'.cell? ⟨b3,o3+4,none⟩=some v2/\W'.cell? ⟨b3,o3+5,none⟩=some v3/\W'.cell? ⟨b3,o3+6,none⟩=some v4)/\Below m0 wr W':=by
 obtain⟨⟨h0,h1,h2,h3⟩,h4,⟨k0,k1,k2,k3,k4⟩,h5⟩:=h;have hc:=fun {b o:Nat} {u:Value} (h:W.cell? ⟨b,o,none⟩=some u)=>((bcell hb).1 b o (zai h)).trans h
 exact⟨⟨hc h0,hc h1,hc h2,hc h3⟩,hc h4,⟨hc k0,hc k1,hc k2,hc k3,hc k4⟩,h5.trans (hb.mono (Nat.le_trans hm h5.size))⟩
theorem yaig (f:Nat->Bool)(w:World)(hl:SignsAt w)(hSg:SgnAt w) :
  Calls Tryz.prog 5 #[.agg #[.int .u64 (setW f 0),.int .u64 (setW f 1),.int .u64 (setW f 2),.int .u64 (setW f 3)]] w fun e w'=>e=.returned (.bool true)/\Below w.heap.size w w':=by
 have HA:=Lib.hid fun(W:World) (hb:Below w.heap.size w W)=>yaci W (hl.kept hb (Nat.le_refl _)) (hSg.kept hb (Nat.le_refl _))
 have HC:=Lib.hid fun(W:World)=>yaau f W
 have HR:=Lib.hid fun(W:World)=>yabi f W
 have HE:=Lib.hid fun(W:World) (hb:Below w.heap.size w W)=>yajp f W (hl.kept hb (Nat.le_refl _))
 have HT:=Lib.hid fun(W:World) (hb:Below w.heap.size w W)=>yaif f W (hl.kept hb (Nat.le_refl _))
 obtain⟨S,hS⟩:∃S,strOf (clsX f)=S:=⟨_,rfl⟩;rw[hS] at HC HR HE HT;clear hS hl hSg;have HG0:=Lib.hid (Bl.new w 41 #[.int .u64 (setW f 0),.int .u64 (setW f 1),.int .u64 (setW f 2),.int .u64 (setW f 3)]);have HB0:=Lib.hid (zaa w (.cells #[.int .u64 (setW f 0),.int .u64 (setW f 1),.int .u64 (setW f 2),.int .u64 (setW f 3)] 41));go_enter Tryz.func5,Tryz.ntmps5
 go_upto_region 5 with(first
  |(go_at_call 8;(with_reducible refine(HA.out _ HB0.out).mono ?_);rintro e w1 ⟨rfl,hb⟩;have HB1:=Lib.hid (HB0.out.trans (hb.mono HB0.out.size));have HG1:=Lib.hid (HG0.out.below hb);clear hb;have s0:=HG1.out.cell (o:=0) (u:=.int .u64 (setW f 0)) rfl;have s1:=HG1.out.cell (o:=1) (u:=.int .u64 (setW f 1)) rfl;have s2:=HG1.out.cell (o:=2) (u:=.int .u64 (setW f 2)) rfl;have s3:=HG1.out.cell (o:=3) (u:=.int .u64 (setW f 3)) rfl)
  |(go_at_call 17;(with_reducible refine(HC.out _).mono ?_);rintro e w2 ⟨rfl,hb⟩;have HB2:=Lib.hid (HB1.out.trans (hb.mono HB1.out.size));have HG2:=Lib.hid (HG1.out.below hb);clear hb s0 s1 s2 s3)
  |(go_at_call 18;(with_reducible refine(HE.out _ HB2.out).mono ?_);rintro e w3 ⟨va,vc,na,nc,ca,cc,rfl,hN,hb⟩;have hn:=zaa w3 (.cells #[.slice va 1 vc,.slice na 1 nc,.slice ca 0 cc] 46);have hbn:=hb.trans (hn.mono hb.size);have HB3:=Lib.hid (HB2.out.trans (hbn.mono HB2.out.size));have HG3:=Lib.hid (HG2.out.below hbn);have HN3:=Lib.hid (hN.kept hn (Nat.le_refl _));have HF3:=Lib.hid (Bl.new w3 46 #[.slice va 1 vc,.slice na 1 nc,.slice ca 0 cc]);clear hb hn hbn hN))
 obtain⟨W3,hW3⟩:∃W3,w3.alloc (.cells #[.slice va 1 vc,.slice na 1 nc,.slice ca 0 cc] 46)=W3:=⟨_,rfl⟩;obtain⟨F,hF⟩:∃F,w3.heap.size=F:=⟨_,rfl⟩;obtain⟨G,hG⟩:∃G,w.heap.size=G:=⟨_,rfl⟩;rw[hW3] at HB3 HG3 HN3 HF3;rw[hF] at HF3;rw[hG] at HG3;rw[hW3,hF,hG];clear hW3 hF
 go_upto_region 6 with(go_at_call 19;(with_reducible refine(HT.out _ HB3.out).mono ?_);rintro e w4 ⟨ta,tc,rfl,hb⟩;have HB4:=Lib.hid (HB3.out.trans (hb.mono HB3.out.size));have HG4:=Lib.hid (HG3.out.below hb);have HN4:=Lib.hid (HN3.out.kept hb (Nat.le_refl _));have HF4:=Lib.hid (HF3.out.below hb);clear hb)
 obtain⟨nb,no,rfl,kv,c0,c1,c2,c3,c4,c5,c6,-,-⟩:=yaa6 HN4.out (i:=0) (x:=clsN f) rfl;rw[Nat.zero_mul,Nat.add_zero] at c0 c3 c4 c5 c6;have g0:=HG4.out.cell (o:=0) (u:=.int .u64 (setW f 0)) rfl;have g1:=HG4.out.cell (o:=1) (u:=.int .u64 (setW f 1)) rfl;have g2:=HG4.out.cell (o:=2) (u:=.int .u64 (setW f 2)) rfl;have g3:=HG4.out.cell (o:=3) (u:=.int .u64 (setW f 3)) rfl;have f1:=HF4.out.cell (o:=1) (u:=.slice (some ⟨nb,no,none⟩) 1 nc) rfl;obtain⟨m0,hm0⟩:∃m0,m0=w4.heap.size:=⟨_,rfl⟩;have hm1:m0<=w4.heap.size:=Nat.le_of_eq hm0;have HM0:=Lib.hid hm0;have hS:(w4.drew.cell? ⟨G,0,none⟩=some (.int .u64 (setW f 0))/\w4.drew.cell? ⟨G,1,none⟩=some (.int .u64 (setW f 1))/\w4.drew.cell? ⟨G,2,none⟩=some (.int .u64 (setW f 2))/\w4.drew.cell? ⟨G,3,none⟩=some (.int .u64 (setW f 3)))/\w4.drew.cell? ⟨F,1,none⟩=some (.slice (some ⟨nb,no,none⟩) 1 nc)/\(w4.drew.cell? ⟨nb,no,none⟩=some (.int .i64 1)/\w4.drew.cell? ⟨nb,no+3,none⟩=some (.int .u64 (setW f 0))/\w4.drew.cell? ⟨nb,no+4,none⟩=some (.int .u64 (setW f 1))/\w4.drew.cell? ⟨nb,no+5,none⟩=some (.int .u64 (setW f 2))/\w4.drew.cell? ⟨nb,no+6,none⟩=some (.int .u64 (setW f 3)))/\Below m0 w4 w4.drew:=⟨⟨g0,g1,g2,g3⟩,f1,⟨c0,c3,c4,c5,c6⟩,hm0 ▸ Below.drew (Below.refl _ _)⟩;clear hm0 g0 g1 g2 g3 f1 c0 c1 c2 c3 c4 c5 c6
 go_region_held3 (fun W=>(W.cell? ⟨G,0,none⟩=some (.int .u64 (setW f 0))/\W.cell? ⟨G,1,none⟩=some (.int .u64 (setW f 1))/\W.cell? ⟨G,2,none⟩=some (.int .u64 (setW f 2))/\W.cell? ⟨G,3,none⟩=some (.int .u64 (setW f 3)))/\W.cell? ⟨F,1,none⟩=some (.slice (some ⟨nb,no,none⟩) 1 nc)/\(W.cell? ⟨nb,no,none⟩=some (.int .i64 1)/\W.cell? ⟨nb,no+3,none⟩=some (.int .u64 (setW f 0))/\W.cell? ⟨nb,no+4,none⟩=some (.int .u64 (setW f 1))/\W.cell? ⟨nb,no+5,none⟩=some (.int .u64 (setW f 2))/\W.cell? ⟨nb,no+6,none⟩=some (.int .u64 (setW f 3)))/\Below m0 w4 W) (first|exact hS)
  (first
   |(go_at_call 20;(with_reducible refine(HR.out _).mono ?_);rintro ev w5 ⟨rfl,hb⟩;replace hS:=clsK hm1 hb hS;clear hb))
 go_wp2;go_ret;obtain⟨-,-,-,hbf⟩:=hS;exact⟨rfl,hG ▸ (HB4.out.trans ((HM0.out ▸ hbf:Below w4.heap.size w4 _).mono HB4.out.size))⟩
end
end Go.Proofs.YtmopdlbpkiaoeaaGreatDoor
