/- The program's Next and Tokens. What the laws of the syntax need of the plain functions. No walk. -/
import Derived.Test.YthhppmehhdlmnaaGreatDoorPzJ
import Derived.Test.YthhppmehhdlmnaaGreatDoorPzC
import Derived.Test.YthhppmehhdlmnaaGreatDoorPzF
import Derived.Test.YthhppmehhdlmnaaGreatDoorPzH
import Derived.Test.YthhppmehhdlmnaaGreatDoorPzI
set_option maxRecDepth 100000
set_option maxHeartbeats 4000000
namespace Go.Proofs.YthhppmehhdlmnaaGreatDoor
section
open Go.RowKit
theorem z14 (s:ByteArray)(k:Nat)(w:World)(hs:s.size<=1050000)(hlt:k<s.size)(hq:s[k].toNat=39∨s[k].toNat=34) :
  Calls Tryz.prog 160 #[.string s,.int .i64 (k:Int)] w (PTokIs (tokL k ((bts s).drop k)) w):=by
 have hlt':(k:Int)<(s.size:Int):=by omega
 have hk:tokL k ((bts s).drop k)=(litE s[k].toNat ((bts s).drop (k+1))).map fun x=>(⟨12,k,x.1,[]⟩,k+1+x.2):=by rw[zbd s k hlt];exact zc3 hq
 have hc:=zps s k;obtain⟨q,hqd⟩:∃q,s[k].toNat=q:=⟨_,rfl⟩;rw[hqd] at hk hq;cases hr:litE q ((bts s).drop (k+1)) with
 |none=>
  rw[hr] at hk;have HQ:Hid (tokL k ((bts s).drop k)=none):=Lib.hid hk;have hc':∀w,Calls Tryz.prog 168 #[.string s,.int .i64 (k:Int)] w fun e w'=>e=.returned (.tuple #[.agg #[.int .i64 0,.int .i64 0,.string ⟨#[]⟩,.int .u64 0,.int .u64 0,.int .u64 0,.int .u64 0],.int .i64 0,.bool false])/\Below w.heap.size w w':=fun w=>by
   have h:=hc w hs hlt;rw[hqd,hr] at h;exact h
  have HC:=Lib.hid hc';clear hc hc' hk hr;rcases hq with hq|hq
  all_goals
   subst hq;go_enter Tryz.func160,Tryz.ntmps160
   go_wp2_with (go_at_call 168;(with_reducible refine(HC.out _).mono ?_);rintro e w2 ⟨rfl,hb⟩;obtain⟨⟨d0,d1,d2,d3,d4,d5,d6⟩,hfr⟩:=(Zero7.new2 w).below hb (by rw[zav];omega);have HB:=Lib.hid ((zep w).trans (hb.mono (by rw[zav];omega)));clear hb)
   refine bodyPost_ret (v:=.tuple #[.agg #[.int .i64 0,.int .i64 0,.string ⟨#[]⟩,.int .u64 0,.int .u64 0,.int .u64 0,.int .u64 0],.int .i64 0,.bool false]) (by simp[results,Tryz.results160,go_sem,d0,d1,d2,d3,d4,d5,d6]) rfl (PTokIs.no HQ.out ?_);exact za8 HB.out _ _ _ _ _ _ _
 |some x=>
  obtain⟨l,m⟩:=x;rw[hr] at hk;have HQ:Hid (tokL k ((bts s).drop k)=some (⟨12,k,l,[]⟩,k+1+m)):=Lib.hid hk;have hc':∀w,Calls Tryz.prog 168 #[.string s,.int .i64 (k:Int)] w fun e w'=>e=.returned (.tuple #[.agg #[.int .i64 12,.int .i64 0,.string (strOf l),.int .u64 0,.int .u64 0,.int .u64 0,.int .u64 0],.int .i64 ((k+1+m:Nat):Int),.bool true])/\Below w.heap.size w w':=fun w=>by
   have h:=hc w hs hlt;rw[hqd,hr] at h;exact h
  obtain⟨n,hn⟩:∃n:Nat,k+1+m=n:=⟨_,rfl⟩;rw[hn] at hc' HQ;have HC:=Lib.hid hc';clear hc hc' hk hr hn;rcases hq with hq|hq
  all_goals
   subst hq;go_enter Tryz.func160,Tryz.ntmps160
   go_wp2_with (go_at_call 168;(with_reducible refine(HC.out _).mono ?_);rintro e w2 ⟨rfl,hb⟩;obtain⟨⟨d0,d1,d2,d3,d4,d5,d6⟩,hfr⟩:=(Zero7.new2 w).below hb (by rw[zav];omega);have HB:=Lib.hid ((zep w).trans (hb.mono (by rw[zav];omega)));clear hb)
   refine bodyPost_ret (v:=.tuple #[.agg #[.int .i64 12,.int .i64 0,.string (strOf l),.int .u64 0,.int .u64 0,.int .u64 0,.int .u64 0],.int .i64 (n:Int),.bool true]) (by simp[results,Tryz.results160,go_sem,d0,d1,d2,d3,d4,d5,d6]) rfl (PTokIs.plain HQ.out rfl rfl rfl ?_);exact za8 HB.out _ _ _ _ _ _ _
theorem z15 (s:ByteArray)(k:Nat)(w:World)(hs:s.size<=1050000)(hlt:k<s.size)(hS:SignsAt w) :
  Calls Tryz.prog 160 #[.string s,.int .i64 (k:Int)] w (PTokIs (tokL k ((bts s).drop k)) w):=by
 by_cases hq:s[k].toNat=39∨s[k].toNat=34
 ·exact z14 s k w hs hlt hq
 ·by_cases h91:s[k].toNat=91
  ·exact z13 s k w hs hlt h91
  ·cases hl:letB s[k].toNat true
   ·exact zx9 s k w hs hlt hS hl h91 (by omega) (by omega)
   ·exact zx7 s k w hs hlt hl h91 (by omega) (by omega)
theorem z6n (k:Nat)(l:List Nat)(t:Tok)(n:Nat)(h:tokL k l=some (t,n)):t.at_=k:=by
 cases l with
 |nil=>rw[zer] at h;cases h;rfl
 |cons c r=>
  rw[zdf] at h;split at h
  ·cases h;rfl
  ·split at h
   ·cases h;rfl
   ·split at h
    ·cases h;rfl
    ·split at h
     ·obtain⟨x,-,e⟩:=Option.map_eq_some_iff.1 h;cases e;rfl
     ·split at h
      ·obtain⟨x,-,e⟩:=Option.map_eq_some_iff.1 h;cases e;rfl
      ·cases h
theorem zfm:∀(n:Nat) (l:List Nat),l.length<=n->(skipL l).2=false->∃r,l.drop (skipL l).1=35::r
 |_,[],_,h=>by rw[zd9] at h;cases h
 |0,c::r,h,_=>absurd h (by rw[List.length_cons];omega)
 |n+1,c::r,hn,h=>by
  rw[List.length_cons] at hn;by_cases h1:c=32∨c=9∨c=10∨c=13
  ·rw[zal h1] at h ⊢
   exact zfm n r (by omega) h
  ·by_cases h2:c=35
   ·subst h2
    cases hc:comL r with
    |none=>rw[zhs hc];exact⟨r,rfl⟩
    |some m=>
     rw[zht hc] at h ⊢;have h3:=zko _ _ hc;obtain⟨q,hq⟩:=zfm n (r.drop m) (by rw[List.length_drop];omega) h;rw[List.drop_drop] at hq;refine⟨q,?_⟩;rw[<-hq];show List.drop ((skipL (r.drop m)).1+(m+1)) (35::r)=_;rw[show(skipL (r.drop m)).1+(m+1)=(m+(skipL (r.drop m)).1)+1 by omega,List.drop_succ_cons]
   ·rw[zam h1 h2] at h;cases h
theorem zaz (l:List Nat)(p:Nat):nextL l p=match tokL (p+(skipL (l.drop p)).1) (l.drop (p+(skipL (l.drop p)).1)) with|some x=>.ok x|none=>.error (p+(skipL (l.drop p)).1):=by
 unfold nextL;cases h:(skipL (l.drop p)).2
 ·obtain⟨r,hr⟩:=zfm _ _ (Nat.le_refl _) h
  rw[List.drop_drop] at hr;rw[hr,zhb (by decide) (fun e=>absurd e.1 (by decide)) (by decide) (by decide) (by decide)];rfl
 ·rfl
def PNextIs (o:Except Nat (Tok × Nat))(w:World)(e:Ending)(w':World):Prop:=
 match o with
 |.ok (t,n)=>e=.returned (.tuple #[.agg #[.int .i64 (t.kind:Int),.int .i64 (t.at_:Int),.string (strOf t.text),.int .u64 (setW (inRs t.rs) 0),.int .u64 (setW (inRs t.rs) 1),.int .u64 (setW (inRs t.rs) 2),.int .u64 (setW (inRs t.rs) 3)],.int .i64 (n:Int),.nilIface])/\Below w.heap.size w w'
 |.error k=>e=.returned (.tuple #[.agg #[.int .i64 0,.int .i64 0,.string ⟨#[]⟩,.int .u64 0,.int .u64 0,.int .u64 0,.int .u64 0],.int .i64 0,.iface 132 (.agg #[.int .i64 1,.int .i64 (k:Int)])])/\Below w.heap.size w w'
theorem PNextIs.bad {o:Except Nat (Tok × Nat)}{w w':World}{k:Nat}(h:o=.error k)(hb:Below w.heap.size w w') :
  PNextIs o w (.returned (.tuple #[.agg #[.int .i64 0,.int .i64 0,.string ⟨#[]⟩,.int .u64 0,.int .u64 0,.int .u64 0,.int .u64 0],.int .i64 0,.iface 132 (.agg #[.int .i64 1,.int .i64 (k:Int)])])) w':=by
 subst h;exact⟨rfl,hb⟩
theorem PNextIs.good {o:Except Nat (Tok × Nat)}{w w':World}{n a k:Nat}{x:List Nat}{rs:List (Nat × Nat)}(h:o=.ok (⟨a,k,x,rs⟩,n))(hb:Below w.heap.size w w') :
  PNextIs o w (.returned (.tuple #[.agg #[.int .i64 (a:Int),.int .i64 (k:Int),.string (strOf x),.int .u64 (setW (inRs rs) 0),.int .u64 (setW (inRs rs) 1),.int .u64 (setW (inRs rs) 2),.int .u64 (setW (inRs rs) 3)],.int .i64 (n:Int),.nilIface])) w':=by
 subst h;exact⟨rfl,hb⟩
theorem PNextIs.fin {o:Except Nat (Tok × Nat)}{w w':World}{k:Nat}(h:o=.ok (⟨0,k,[],[]⟩,k))(hb:Below w.heap.size w w') :
  PNextIs o w (.returned (.tuple #[.agg #[.int .i64 0,.int .i64 (k:Int),.string ⟨#[]⟩,.int .u64 0,.int .u64 0,.int .u64 0,.int .u64 0],.int .i64 (k:Int),.nilIface])) w':=by
 subst h;refine⟨?_,hb⟩;simp only[zc0];rfl
def Tok7 (B:Nat)(a b c d e f g:Value)(w:World):Prop:=
 (w.cell? ⟨B,0,none⟩=some a/\w.cell? ⟨B,1,none⟩=some b/\w.cell? ⟨B,2,none⟩=some c/\w.cell? ⟨B,3,none⟩=some d/\w.cell? ⟨B,4,none⟩=some e/\w.cell? ⟨B,5,none⟩=some f/\w.cell? ⟨B,6,none⟩=some g)/\∀o,w.frozen? ⟨B,o,none⟩=false
theorem Tok7.of {B:Nat}{w:World}(h:Zero7 B w):Tok7 B (.int .i64 0) (.int .i64 0) (.string ⟨#[]⟩) (.int .u64 0) (.int .u64 0) (.int .u64 0) (.int .u64 0) w:=h
theorem Tok7.stored {B:Nat}{a b c d e f g:Value}{w:World}(h:Tok7 B a b c d e f g w)(a' b' c' d' e' f' g':Value) :
  Tok7 B a' b' c' d' e' f' g' (((((((w.setCell ⟨B,0,none⟩ a').setCell ⟨B,1,none⟩ b').setCell ⟨B,2,none⟩ c').setCell ⟨B,3,none⟩ d').setCell ⟨B,4,none⟩ e').setCell ⟨B,5,none⟩ f').setCell ⟨B,6,none⟩ g'):=by
 obtain⟨⟨h0,h1,h2,h3,h4,h5,h6⟩,hf⟩:=h;refine⟨⟨?_,?_,?_,?_,?_,?_,?_⟩,fun o=>?_⟩
 ·rw[cso (by decide),cso (by decide),cso (by decide),cso (by decide),cso (by decide),cso (by decide)];exact css h0
 ·rw[cso (by decide),cso (by decide),cso (by decide),cso (by decide),cso (by decide)];exact css (by rw[cso (by decide)];exact h1)
 ·rw[cso (by decide),cso (by decide),cso (by decide),cso (by decide)];exact css (by rw[cso (by decide),cso (by decide)];exact h2)
 ·rw[cso (by decide),cso (by decide),cso (by decide)];exact css (by rw[cso (by decide),cso (by decide),cso (by decide)];exact h3)
 ·rw[cso (by decide),cso (by decide)];exact css (by rw[cso (by decide),cso (by decide),cso (by decide),cso (by decide)];exact h4)
 ·rw[cso (by decide)];exact css (by rw[cso (by decide),cso (by decide),cso (by decide),cso (by decide),cso (by decide)];exact h5)
 ·exact css (by rw[cso (by decide),cso (by decide),cso (by decide),cso (by decide),cso (by decide),cso (by decide)];exact h6)
 ·simp only[World.frozen?_setCell];exact hf o
theorem znv (s:ByteArray)(p:Nat)(w:World)(hs:s.size<=1050000)(hp:p<=s.size)(hS:SignsAt w) :
  Calls Tryz.prog 149 #[.string s,.int .i64 (p:Int)] w (PNextIs (nextL (bts s) p) w):=by
 have hp1:¬(p:Int)<0:=by omega
 have hp2:decide ((s.size:Int)<(p:Int))=false:=by rw[decide_eq_false_iff_not];omega
 have hn:=zaz (bts s) p;have hle:=zha _ ((bts s).drop p) (Nat.le_refl _);rw[List.length_drop,zag] at hle;have hsk:∀w,Calls Tryz.prog 159 #[.string s,.int .i64 (p:Int)] w fun e w'=>e=.returned (.int .i64 ((p+(skipL ((bts s).drop p)).1:Nat):Int))/\Below w.heap.size w w':=fun w=>zzu s p w (by omega) hp
 obtain⟨k,hk⟩:∃k,p+(skipL ((bts s).drop p)).1=k:=⟨_,rfl⟩;rw[hk] at hn hsk;have hks:k<=s.size:=by omega
 have HSK:=Lib.hid hsk;have HSG:=Lib.hid hS;clear hsk hk hle hS;by_cases hlt:k<s.size
 ·have e1:((k:Int) == (s.size:Int))=false:=by rw[beq_eq_false_iff_ne];omega
  have hT:∀w,SignsAt w->Calls Tryz.prog 160 #[.string s,.int .i64 (k:Int)] w (PTokIs (tokL k ((bts s).drop k)) w):=fun w h=>z15 s k w hs hlt h
  cases ht:tokL k ((bts s).drop k) with
  |none=>
   rw[ht] at hT hn;have HN:Hid (nextL (bts s) p=.error k):=Lib.hid hn;have hT':∀w,SignsAt w->Calls Tryz.prog 160 #[.string s,.int .i64 (k:Int)] w fun e w'=>e=.returned (.tuple #[.agg #[.int .i64 0,.int .i64 0,.string ⟨#[]⟩,.int .u64 0,.int .u64 0,.int .u64 0,.int .u64 0],.int .i64 0,.bool false])/\Below w.heap.size w w':=fun w h=>hT w h
   have HT:=Lib.hid hT';clear hT hT' hn ht;go_enter Tryz.func149,Tryz.ntmps149
   go_upto_region 7 with(first
    |(go_at_call 159;(with_reducible refine(HSK.out _).mono ?_);rintro e w2 ⟨rfl,hb⟩;have hz2:=(Zero7.new2 w).below hb (by rw[zav];omega);have HB:=Lib.hid ((zep w).trans (hb.mono (by rw[zav];omega)));have hsz2:w.heap.size<w2.heap.size:=Nat.lt_of_lt_of_le (by rw[zav];omega) hb.size;clear hb)
    |(go_at_call 160;(with_reducible refine(HT.out _ (HSG.out.kept HB.out (Nat.le_refl _))).mono ?_);rintro e w3 ⟨rfl,hb⟩;have HZ3:=Lib.hid (hz2.below hb hsz2);obtain⟨⟨d0,d1,d2,d3,d4,d5,d6⟩,hfr⟩:=HZ3.out;have HB3:=Lib.hid (HB.out.trans (hb.mono (Nat.le_of_lt hsz2)));clear hb hz2))
   have ht4:=(Tok7.of HZ3.out).stored (.int .i64 0) (.int .i64 0) (.string ⟨#[]⟩) (.int .u64 0) (.int .u64 0) (.int .u64 0) (.int .u64 0);have hb4:=za8 HB3.out (.int .i64 0) (.int .i64 0) (.string ⟨#[]⟩) (.int .u64 0) (.int .u64 0) (.int .u64 0) (.int .u64 0);generalize (((((((w3.setCell ⟨w.heap.size,0,none⟩ (.int .i64 0)).setCell ⟨w.heap.size,1,none⟩ (.int .i64 0)).setCell ⟨w.heap.size,2,none⟩ (.string ⟨#[]⟩)).setCell ⟨w.heap.size,3,none⟩ (.int .u64 0)).setCell ⟨w.heap.size,4,none⟩ (.int .u64 0)).setCell ⟨w.heap.size,5,none⟩ (.int .u64 0)).setCell ⟨w.heap.size,6,none⟩ (.int .u64 0))=W4 at ht4 hb4 ⊢;have HB4:=Lib.hid hb4;clear d0 d1 d2 d3 d4 d5 d6 hfr HZ3 HB3 HB hb4;obtain⟨⟨d0,d1,d2,d3,d4,d5,d6⟩,hfr⟩:=ht4
   go_wp2_with (go_at_call 53;(with_reducible refine(zvh _ _ _).mono ?_);rintro e w' ⟨rfl,hw⟩;obtain rfl:=hw.symm;clear hw)
   refine bodyPost_ret (v:=.tuple #[.agg #[.int .i64 0,.int .i64 0,.string ⟨#[]⟩,.int .u64 0,.int .u64 0,.int .u64 0,.int .u64 0],.int .i64 0,.iface 132 (.agg #[.int .i64 1,.int .i64 (k:Int)])]) (by simp[results,Tryz.results149,go_sem,d0,d1,d2,d3,d4,d5,d6]) rfl (PNextIs.bad HN.out ?_);exact za8 HB4.out _ _ _ _ _ _ _
  |some x=>
   obtain⟨⟨a,k',x,rs⟩,n⟩:=x;obtain rfl:k'=k:=z6n _ _ _ _ ht;rw[ht] at hT hn;have HN:Hid (nextL (bts s) p=.ok (⟨a,k',x,rs⟩,n)):=Lib.hid hn;obtain⟨st,hst⟩:∃st,strOf x=st:=⟨_,rfl⟩;obtain⟨s0,hs0⟩:∃y,setW (inRs rs) 0=y:=⟨_,rfl⟩;obtain⟨s1,hs1⟩:∃y,setW (inRs rs) 1=y:=⟨_,rfl⟩;obtain⟨s2,hs2⟩:∃y,setW (inRs rs) 2=y:=⟨_,rfl⟩;obtain⟨s3,hs3⟩:∃y,setW (inRs rs) 3=y:=⟨_,rfl⟩;have hT':∀w,SignsAt w->Calls Tryz.prog 160 #[.string s,.int .i64 (k':Int)] w fun e w'=>e=.returned (.tuple #[.agg #[.int .i64 (a:Int),.int .i64 0,.string st,.int .u64 s0,.int .u64 s1,.int .u64 s2,.int .u64 s3],.int .i64 (n:Int),.bool true])/\Below w.heap.size w w':=fun w h=>by
    rw[<-hst,<-hs0,<-hs1,<-hs2,<-hs3];exact hT w h
   have HT:=Lib.hid hT';have HG:Hid (∀w',Below w.heap.size w w'->PNextIs (nextL (bts s) p) w (.returned (.tuple #[.agg #[.int .i64 (a:Int),.int .i64 (k':Int),.string st,.int .u64 s0,.int .u64 s1,.int .u64 s2,.int .u64 s3],.int .i64 (n:Int),.nilIface])) w'):=Lib.hid (fun w' hb=>by rw[<-hst,<-hs0,<-hs1,<-hs2,<-hs3];exact PNextIs.good HN.out hb);clear hT hT' hn ht hst hs0 hs1 hs2 hs3;go_enter Tryz.func149,Tryz.ntmps149
   go_upto_region 7 with(first
    |(go_at_call 159;(with_reducible refine(HSK.out _).mono ?_);rintro e w2 ⟨rfl,hb⟩;have hz2:=(Zero7.new2 w).below hb (by rw[zav];omega);have HB:=Lib.hid ((zep w).trans (hb.mono (by rw[zav];omega)));have hsz2:w.heap.size<w2.heap.size:=Nat.lt_of_lt_of_le (by rw[zav];omega) hb.size;clear hb)
    |(go_at_call 160;(with_reducible refine(HT.out _ (HSG.out.kept HB.out (Nat.le_refl _))).mono ?_);rintro e w3 ⟨rfl,hb⟩;have HZ3:=Lib.hid (hz2.below hb hsz2);obtain⟨⟨d0,d1,d2,d3,d4,d5,d6⟩,hfr⟩:=HZ3.out;have HB3:=Lib.hid (HB.out.trans (hb.mono (Nat.le_of_lt hsz2)));clear hb hz2))
   have ht4:=(Tok7.of HZ3.out).stored (.int .i64 (a:Int)) (.int .i64 0) (.string st) (.int .u64 s0) (.int .u64 s1) (.int .u64 s2) (.int .u64 s3);have hb4:=za8 HB3.out (.int .i64 (a:Int)) (.int .i64 0) (.string st) (.int .u64 s0) (.int .u64 s1) (.int .u64 s2) (.int .u64 s3);generalize (((((((w3.setCell ⟨w.heap.size,0,none⟩ (.int .i64 (a:Int))).setCell ⟨w.heap.size,1,none⟩ (.int .i64 0)).setCell ⟨w.heap.size,2,none⟩ (.string st)).setCell ⟨w.heap.size,3,none⟩ (.int .u64 s0)).setCell ⟨w.heap.size,4,none⟩ (.int .u64 s1)).setCell ⟨w.heap.size,5,none⟩ (.int .u64 s2)).setCell ⟨w.heap.size,6,none⟩ (.int .u64 s3))=W4 at ht4 hb4 ⊢;have HB4:=Lib.hid hb4;have HT4:=Lib.hid ht4;clear d0 d1 d2 d3 d4 d5 d6 hfr HZ3 HB3 HB hb4 ht4;obtain⟨⟨d0,d1,d2,d3,d4,d5,d6⟩,hfr⟩:=HT4.out
   go_upto_region 10 with fail
   have ht5:Tok7 w.heap.size (.int .i64 (a:Int)) (.int .i64 (k':Int)) (.string st) (.int .u64 s0) (.int .u64 s1) (.int .u64 s2) (.int .u64 s3) (W4.setCell ⟨w.heap.size,1,none⟩ (.int .i64 (k':Int))):=
    ⟨⟨by rw[cso (by decide)];exact d0,css d1,by rw[cso (by decide)];exact d2,by rw[cso (by decide)];exact d3,by rw[cso (by decide)];exact d4,by rw[cso (by decide)];exact d5,by rw[cso (by decide)];exact d6⟩,fun o=>by rw[World.frozen?_setCell];exact hfr o⟩
   have hb5:Below w.heap.size w (W4.setCell ⟨w.heap.size,1,none⟩ (.int .i64 (k':Int))):=HB4.out.setCell (p:=⟨w.heap.size,1,none⟩) (Nat.le_refl _) _;generalize W4.setCell ⟨w.heap.size,1,none⟩ (.int .i64 (k':Int))=W5 at ht5 hb5 ⊢;have HB5:=Lib.hid hb5;clear d0 d1 d2 d3 d4 d5 d6 hfr HT4 HB4 hb5;obtain⟨⟨d0,d1,d2,d3,d4,d5,d6⟩,hfr⟩:=ht5;go_wp2;refine bodyPost_ret (v:=.tuple #[.agg #[.int .i64 (a:Int),.int .i64 (k':Int),.string st,.int .u64 s0,.int .u64 s1,.int .u64 s2,.int .u64 s3],.int .i64 (n:Int),.nilIface]) (by simp[results,Tryz.results149,go_sem,d0,d1,d2,d3,d4,d5,d6]) rfl (HG.out _ ?_);exact za8 HB5.out _ _ _ _ _ _ _
 ·have hks':k=s.size:=by omega
  have e1:((k:Int) == (s.size:Int))=true:=by rw[beq_iff_eq];omega
  have hn':nextL (bts s) p=.ok (⟨0,k,[],[]⟩,k):=by
   rw[hn,List.drop_eq_nil_of_le (by rw[zag];omega),zer]
  have HN:=Lib.hid hn';clear hn hn' hks';go_enter Tryz.func149,Tryz.ntmps149
  go_wp2_with (go_at_call 159;(with_reducible refine(HSK.out _).mono ?_);rintro e w2 ⟨rfl,hb⟩;obtain⟨⟨d0,d1,d2,d3,d4,d5,d6⟩,hfr⟩:=(Zero7.new2 w).below hb (by rw[zav];omega);have HB:=Lib.hid ((zep w).trans (hb.mono (by rw[zav];omega)));clear hb)
  refine bodyPost_ret (v:=.tuple #[.agg #[.int .i64 0,.int .i64 (k:Int),.string ⟨#[]⟩,.int .u64 0,.int .u64 0,.int .u64 0,.int .u64 0],.int .i64 (k:Int),.nilIface]) (by simp[results,Tryz.results149,go_sem,d0,d1,d2,d3,d4,d5,d6]) rfl (PNextIs.fin HN.out ?_);exact za8 HB.out _ _ _ _ _ _ _
end
section
open Go.RowKit
def PToksIs (o:Except Nat (List Tok))(w:World)(e:Ending)(w':World):Prop:=
 match o with
 |.error k=>e=.returned (.tuple #[.slice none 0 0,.iface 132 (.agg #[.int .i64 1,.int .i64 (k:Int)])])/\Below w.heap.size w w'
 |.ok ts=>∃v,e=.returned (.tuple #[v,.nilIface])/\w'.ownsRow w.heap.size 168 7 v ts.length (toksC ts)/\Below w.heap.size w w'
theorem PToksIs.bad {o:Except Nat (List Tok)}{w w':World}{k:Nat}(h:o=.error k)(hb:Below w.heap.size w w'):PToksIs o w (.returned (.tuple #[.slice none 0 0,.iface 132 (.agg #[.int .i64 1,.int .i64 (k:Int)])])) w':=by
 subst h;exact⟨rfl,hb⟩
theorem PToksIs.good {o:Except Nat (List Tok)}{w w':World}{v:Value}{ts:List Tok}(h:o=.ok ts)(hs:w'.ownsRow w.heap.size 168 7 v ts.length (toksC ts))(hb:Below w.heap.size w w'):PToksIs o w (.returned (.tuple #[v,.nilIface])) w':=by
 subst h;exact⟨v,rfl,hs,hb⟩
theorem zis (s:ByteArray)(p k:Nat)(w:World)(hs:s.size<=1050000)(hp:p<=s.size)(hS:SignsAt w)(h:nextL (bts s) p=.error k) :
  Calls Tryz.prog 149 #[.string s,.int .i64 (p:Int)] w fun e w'=>e=.returned (.tuple #[.agg #[.int .i64 0,.int .i64 0,.string ⟨#[]⟩,.int .u64 0,.int .u64 0,.int .u64 0,.int .u64 0],.int .i64 0,.iface 132 (.agg #[.int .i64 1,.int .i64 (k:Int)])])/\Below w.heap.size w w':=by
 have:=znv s p w hs hp hS;unfold PNextIs at this;rw[h] at this;exact this
theorem zl5 (s:ByteArray)(p:Nat)(t:Tok)(n:Nat)(w:World)(hs:s.size<=1050000)(hp:p<=s.size)(hS:SignsAt w)(h:nextL (bts s) p=.ok (t,n)) :
  Calls Tryz.prog 149 #[.string s,.int .i64 (p:Int)] w fun e w'=>e=.returned (.tuple #[.agg #[.int .i64 (t.kind:Int),.int .i64 (t.at_:Int),.string (strOf t.text),.int .u64 (setW (inRs t.rs) 0),.int .u64 (setW (inRs t.rs) 1),.int .u64 (setW (inRs t.rs) 2),.int .u64 (setW (inRs t.rs) 3)],.int .i64 (n:Int),.nilIface])/\Below w.heap.size w w':=by
 have:=znv s p w hs hp hS;unfold PNextIs at this;rw[h] at this;exact this
end
theorem zl6 {st:Bool}{F:List Tok->MF->PO}:∀(n:Nat) (ts:List Tok) (f g:MF) (rs rs':List (List Nat × Nat × Int)),defsL st F n ts f rs=.ok rs' g->rs'.length<=rs.length+n
 |0,_,_,_,_,_,h=>by cases h
 |n+1,ts,f,g,rs,rs',h=>by
  unfold defsL at h;cases hd:defL st F ts f with
  |bad a dp=>rw[hd] at h;cases h
  |ok a k=>
   rw[hd] at h;dsimp only at h;by_cases h0:kd a=0
   ·rw[if_pos h0] at h
    cases h;rw[List.length_append,List.length_singleton];omega
   ·rw[if_neg h0] at h
    have:=zl6 n a k g _ _ h;rw[List.length_append,List.length_singleton] at this;omega
theorem ztr {st:Bool}{F:List Tok->MF->PO}(hG:Grow 0 2 F){ts a:List Tok}{f g:MF}(h:defL st F ts f=.ok a g):g.calls.length+a.length<=f.calls.length+ts.length:=by
 unfold defL at h;split at h
 ·rename_i k1
  have t1:=zb6 (ts:=ts) (by omega);obtain⟨b,k,hb,hk⟩:=zcr h;have e1:b=ts.tail/\k=f:=by
   unfold acc at hb;split at hb
   ·cases hb
   ·cases hb;exact⟨rfl,rfl⟩
  obtain⟨rfl,rfl⟩:=e1;split at hk
  ·rename_i k2
   have t2:=zb6 (ts:=ts.tail) (by omega);obtain⟨c,j,hc,hj⟩:=zcr hk;have e2:c=ts.tail.tail/\j=k:=by
    unfold acc at hc;split at hc
    ·cases hc
    ·cases hc;exact⟨rfl,rfl⟩
   obtain⟨rfl,rfl⟩:=e2;have hg:=hG ts.tail.tail j;rw[hj] at hg;have:=hg.2.2.2.2.2;omega
  ·cases hk
 ·cases h
theorem zkb {st:Bool}{F:List Tok->MF->PO}(hG:Grow 0 2 F):∀(n:Nat) (ts:List Tok) (f g:MF) (rs rs':List (List Nat × Nat × Int)),defsL st F n ts f rs=.ok rs' g->g.calls.length<=f.calls.length+ts.length
 |0,_,_,_,_,_,h=>by cases h
 |n+1,ts,f,g,rs,rs',h=>by
  unfold defsL at h;cases hd:defL st F ts f with
  |bad a dp=>rw[hd] at h;cases h
  |ok a k=>
   have hc:=ztr hG hd;rw[hd] at h;dsimp only at h;by_cases h0:kd a=0
   ·rw[if_pos h0] at h
    cases h;omega
   ·rw[if_neg h0] at h
    have:=zkb hG n a k g _ _ h;omega
theorem zr3 (s:ByteArray):(strm (bts s) 0).length<=s.size+1:=by
 obtain⟨-,h2,-⟩:=zgu (bts s) _ 0 (Nat.zero_le _) (Nat.le_refl _);rw[zag] at h2;omega
theorem znw {s:ByteArray}{rs:List (List Nat × Nat × Int)}{f:MF}(hs:s.size<=1050000)(h:zfb (bts s)=.ok rs f):rs.length<=100000000/\f.calls.length<=100000000:=by
 have h1:=zl6 _ _ _ _ _ _ h;have h2:=zkb (Gr.expr 200 true) _ _ _ _ _ _ h;have h3:=zr3 s;have e1:([]:List (List Nat × Nat × Int)).length=0:=rfl;have e2:(⟨[],[]⟩:MF).calls.length=0:=rfl;omega
end Go.Proofs.YthhppmehhdlmnaaGreatDoor
