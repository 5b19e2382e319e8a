/- The fixed example of the printer. No walk. The two other strings of the printer's fixed examples. No walk. Written by wip/gen/prnex.py. -/
import Derived.Test.YtmopdlbpkiaoeaaGreatDoorPqK
import Derived.Test.YtmopdlbpkiaoeaaGreatDoorPqPM
namespace Go.Proofs.YtmopdlbpkiaoeaaGreatDoor
open List.cons renaming inj->qdf
section
def x10R:List PR:=[⟨⟨#[65]⟩,9⟩,⟨⟨#[66]⟩,10⟩]
def x10N:List PN:=[⟨1,[],0,0,8589934592,0,0⟩,⟨1,[],0,0,17179869184,0,0⟩,⟨3,[0,1],0,0,0,0,0⟩,⟨5,[2],0,0,0,0,0⟩,⟨2,[],1,0,0,0,0⟩,⟨0,[],0,0,0,0,0⟩,⟨4,[4,5],0,0,0,0,0⟩,⟨7,[6],0,0,0,0,0⟩,⟨9,[7],0,0,0,0,0⟩,⟨4,[3,8],0,0,0,0,0⟩,⟨1,[],0,0,72057654167470080,0,0⟩]
def x10S:List Nat:=[65,32,60,45,32,40,39,97,39,32,39,98,39,41,42,32,47,32,33,40,66,32,47,32,39,39,41,63,10,66,32,60,45,32,91,97,45,99,120,93,10]
theorem z91:chkL x10R x10N=.ok:=jb
theorem yach:z88 x10R x10N=x10S:=jb
theorem yafp:tx x10N (nmOf x10R) cxN 0 2=[39,97,39,32,39,98,39]:=jb
theorem yafq:tx x10N (nmOf x10R) cxN 0 10=[91,97,45,99,120,93]:=jb
theorem yajh:clsX (fun _=>false)=[91,93]:=jb
theorem z9u:∀n,n ∈ x10N->z87 n:=by
 intro n hn;unfold x10N at hn;simp only[List.mem_cons,List.not_mem_nil,or_false] at hn;rcases hn with rfl|rfl|rfl|rfl|rfl|rfl|rfl|rfl|rfl|rfl|rfl<;>simp[z87]
theorem yaji:∃rs' f,zaz x10S=.ok rs' f/\dupO rs'=none/\undO (nmR rs') f=none/\zam rs'=x10R/\zan (nmR rs') (nmC f) f.nodes=x10N:=by
 rw[<-yach];exact yab7 z91 z9u
end
section
def x10T:List Nat:=[65,60,45,40,40,39,97,98,39,41,41,42,47,33,40,40,66,47,32,41,41,63,66,60,45,91,120,99,98,97,93]
theorem yalv:nextL x10T 0=.ok (⟨1,0,[65],[]⟩,1):=by
 rw[zb4,show x10T.drop 0=65::x10T.drop 1 from rfl,zbg ja ja];show(match tokL 0 (65::x10T.drop 1) with|some x=>Except.ok x|none=>.error 0)=_;rw[zci ja];rfl
theorem yalw:nextL x10T 1=.ok (⟨2,1,[],[]⟩,3):=by
 rw[zb4,show x10T.drop 1=60::x10T.drop 2 from rfl,zbg ja ja];show(match tokL 1 (60::x10T.drop 2) with|some x=>Except.ok x|none=>.error 1)=_;rw[zbq ja ja]
theorem yalx:nextL x10T 3=.ok (⟨9,3,[],[]⟩,4):=by
 rw[zb4,show x10T.drop 3=40::x10T.drop 4 from rfl,zbg ja ja];show(match tokL 3 (40::x10T.drop 4) with|some x=>Except.ok x|none=>.error 3)=_;rw[zca (i:=9) ja ja rfl]
theorem yaly:nextL x10T 4=.ok (⟨9,4,[],[]⟩,5):=by
 rw[zb4,show x10T.drop 4=40::x10T.drop 5 from rfl,zbg ja ja];show(match tokL 4 (40::x10T.drop 5) with|some x=>Except.ok x|none=>.error 4)=_;rw[zca (i:=9) ja ja rfl]
theorem yalz:nextL x10T 5=.ok (⟨12,5,[97,98],[]⟩,9):=by
 rw[zb4,show x10T.drop 5=39::x10T.drop 6 from rfl,zbg ja ja];show(match tokL 5 (39::97::x10T.drop 7) with|some x=>Except.ok x|none=>.error 5)=_;rw[zda (Or.inl rfl),zdj (c:=97) (n:=1) rfl ja,show(97::x10T.drop 7).drop 1=98::x10T.drop 8 from rfl,zdj (c:=98) (n:=1) rfl ja,show(98::x10T.drop 8).drop 1=39::x10T.drop 9 from rfl,zff];rfl
theorem yal0:nextL x10T 9=.ok (⟨10,9,[],[]⟩,10):=by
 rw[zb4,show x10T.drop 9=41::x10T.drop 10 from rfl,zbg ja ja];show(match tokL 9 (41::x10T.drop 10) with|some x=>Except.ok x|none=>.error 9)=_;rw[zca (i:=10) ja ja rfl]
theorem yaks:nextL x10T 10=.ok (⟨10,10,[],[]⟩,11):=by
 rw[zb4,show x10T.drop 10=41::x10T.drop 11 from rfl,zbg ja ja];show(match tokL 10 (41::x10T.drop 11) with|some x=>Except.ok x|none=>.error 10)=_;rw[zca (i:=10) ja ja rfl]
theorem yakt:nextL x10T 11=.ok (⟨7,11,[],[]⟩,12):=by
 rw[zb4,show x10T.drop 11=42::x10T.drop 12 from rfl,zbg ja ja];show(match tokL 11 (42::x10T.drop 12) with|some x=>Except.ok x|none=>.error 11)=_;rw[zca (i:=7) ja ja rfl]
theorem yaku:nextL x10T 12=.ok (⟨3,12,[],[]⟩,13):=by
 rw[zb4,show x10T.drop 12=47::x10T.drop 13 from rfl,zbg ja ja];show(match tokL 12 (47::x10T.drop 13) with|some x=>Except.ok x|none=>.error 12)=_;rw[zca (i:=3) ja ja rfl]
theorem yakv:nextL x10T 13=.ok (⟨5,13,[],[]⟩,14):=by
 rw[zb4,show x10T.drop 13=33::x10T.drop 14 from rfl,zbg ja ja];show(match tokL 13 (33::x10T.drop 14) with|some x=>Except.ok x|none=>.error 13)=_;rw[zca (i:=5) ja ja rfl]
theorem yakw:nextL x10T 14=.ok (⟨9,14,[],[]⟩,15):=by
 rw[zb4,show x10T.drop 14=40::x10T.drop 15 from rfl,zbg ja ja];show(match tokL 14 (40::x10T.drop 15) with|some x=>Except.ok x|none=>.error 14)=_;rw[zca (i:=9) ja ja rfl]
theorem yakx:nextL x10T 15=.ok (⟨9,15,[],[]⟩,16):=by
 rw[zb4,show x10T.drop 15=40::x10T.drop 16 from rfl,zbg ja ja];show(match tokL 15 (40::x10T.drop 16) with|some x=>Except.ok x|none=>.error 15)=_;rw[zca (i:=9) ja ja rfl]
theorem yaky:nextL x10T 16=.ok (⟨1,16,[66],[]⟩,17):=by
 rw[zb4,show x10T.drop 16=66::x10T.drop 17 from rfl,zbg ja ja];show(match tokL 16 (66::x10T.drop 17) with|some x=>Except.ok x|none=>.error 16)=_;rw[zci ja];rfl
theorem yakz:nextL x10T 17=.ok (⟨3,17,[],[]⟩,18):=by
 rw[zb4,show x10T.drop 17=47::x10T.drop 18 from rfl,zbg ja ja];show(match tokL 17 (47::x10T.drop 18) with|some x=>Except.ok x|none=>.error 17)=_;rw[zca (i:=3) ja ja rfl]
theorem yak0:nextL x10T 18=.ok (⟨10,19,[],[]⟩,20):=by
 rw[zb4,show x10T.drop 18=32::41::x10T.drop 20 from rfl,zbf ja,zbg ja ja];show(match tokL 19 (41::x10T.drop 20) with|some x=>Except.ok x|none=>.error 19)=_;rw[zca (i:=10) ja ja rfl]
theorem yak1:nextL x10T 20=.ok (⟨10,20,[],[]⟩,21):=by
 rw[zb4,show x10T.drop 20=41::x10T.drop 21 from rfl,zbg ja ja];show(match tokL 20 (41::x10T.drop 21) with|some x=>Except.ok x|none=>.error 20)=_;rw[zca (i:=10) ja ja rfl]
theorem yak2:nextL x10T 21=.ok (⟨6,21,[],[]⟩,22):=by
 rw[zb4,show x10T.drop 21=63::x10T.drop 22 from rfl,zbg ja ja];show(match tokL 21 (63::x10T.drop 22) with|some x=>Except.ok x|none=>.error 21)=_;rw[zca (i:=6) ja ja rfl]
theorem yak3:nextL x10T 22=.ok (⟨1,22,[66],[]⟩,23):=by
 rw[zb4,show x10T.drop 22=66::x10T.drop 23 from rfl,zbg ja ja];show(match tokL 22 (66::x10T.drop 23) with|some x=>Except.ok x|none=>.error 22)=_;rw[zci ja];rfl
theorem yak4:nextL x10T 23=.ok (⟨2,23,[],[]⟩,25):=by
 rw[zb4,show x10T.drop 23=60::x10T.drop 24 from rfl,zbg ja ja];show(match tokL 23 (60::x10T.drop 24) with|some x=>Except.ok x|none=>.error 23)=_;rw[zbq ja ja]
theorem yak5:nextL x10T 25=.ok (⟨13,25,[],[(120,120),(99,99),(98,98),(97,97)]⟩,31):=by
 rw[zb4,show x10T.drop 25=91::x10T.drop 26 from rfl,zbg ja ja];show(match tokL 25 (91::120::x10T.drop 27) with|some x=>Except.ok x|none=>.error 25)=_;rw[zc9,zdw (c:=120) (lo:=120) (n:=1) (r:=x10T.drop 27) rfl ja (fun t h=>absurd (qdf (show 99::x10T.drop 28=45::t from h)).1 ja),show(120::x10T.drop 27).drop 1=99::x10T.drop 28 from rfl,zdw (c:=99) (lo:=99) (n:=1) (r:=x10T.drop 28) rfl ja (fun t h=>absurd (qdf (show 98::x10T.drop 29=45::t from h)).1 ja),show(99::x10T.drop 28).drop 1=98::x10T.drop 29 from rfl,zdw (c:=98) (lo:=98) (n:=1) (r:=x10T.drop 29) rfl ja (fun t h=>absurd (qdf (show 97::x10T.drop 30=45::t from h)).1 ja),show(98::x10T.drop 29).drop 1=97::x10T.drop 30 from rfl,zdw (c:=97) (lo:=97) (n:=1) (r:=x10T.drop 30) rfl ja (fun t h=>absurd (qdf (show 93::x10T.drop 31=45::t from h)).1 ja),show(97::x10T.drop 30).drop 1=93::x10T.drop 31 from rfl,zh6];rfl
theorem yak6:nextL x10T 31=.ok (⟨0,31,[],[]⟩,31):=by
 rw[zb4,show x10T.drop 31=[] from rfl,zc5];rfl
theorem yahs:strm x10T 0=[⟨1,0,[65],[]⟩,⟨2,1,[],[]⟩,⟨9,3,[],[]⟩,⟨9,4,[],[]⟩,⟨12,5,[97,98],[]⟩,⟨10,9,[],[]⟩,⟨10,10,[],[]⟩,⟨7,11,[],[]⟩,⟨3,12,[],[]⟩,⟨5,13,[],[]⟩,⟨9,14,[],[]⟩,⟨9,15,[],[]⟩,⟨1,16,[66],[]⟩,⟨3,17,[],[]⟩,⟨10,19,[],[]⟩,⟨10,20,[],[]⟩,⟨6,21,[],[]⟩,⟨1,22,[66],[]⟩,⟨2,23,[],[]⟩,⟨13,25,[],[(120,120),(99,99),(98,98),(97,97)]⟩,⟨0,31,[],[]⟩]:=by
 rw[zbe yalv ja ja,zbe yalw ja ja,zbe yalx ja ja,zbe yaly ja ja,zbe yalz ja ja,zbe yal0 ja ja,zbe yaks ja ja,zbe yakt ja ja,zbe yaku ja ja,zbe yakv ja ja,zbe yakw ja ja,zbe yakx ja ja,zbe yaky ja ja,zbe yakz ja ja,zbe yak0 ja ja,zbe yak1 ja ja,zbe yak2 ja ja,zbe yak3 ja ja,zbe yak4 ja ja,zbe yak5 ja ja,zbt yak6 rfl]
def x10B:List Nat:=[65,32,60,45,45,32,66]
theorem yal1:nextL x10B 0=.ok (⟨1,0,[65],[]⟩,1):=by
 rw[zb4,show x10B.drop 0=65::x10B.drop 1 from rfl,zbg ja ja];show(match tokL 0 (65::x10B.drop 1) with|some x=>Except.ok x|none=>.error 0)=_;rw[zci ja];rfl
theorem yal2:nextL x10B 1=.ok (⟨2,2,[],[]⟩,4):=by
 rw[zb4,show x10B.drop 1=32::60::x10B.drop 3 from rfl,zbf ja,zbg ja ja];show(match tokL 2 (60::x10B.drop 3) with|some x=>Except.ok x|none=>.error 2)=_;rw[zbq ja ja]
theorem yal3:nextL x10B 4=.error 4:=by
 rw[zb4,show x10B.drop 4=45::x10B.drop 5 from rfl,zbg ja ja];show(match tokL 4 (45::x10B.drop 5) with|some x=>Except.ok x|none=>.error 4)=_;rw[zc3 ja ja rfl ja ja]
theorem yaht:strm x10B 0=[⟨1,0,[65],[]⟩,⟨2,2,[],[]⟩,⟨99,4,[],[]⟩]:=by
 rw[zbe yal1 ja ja,zbe yal2 ja ja,zcg yal3]
def x10rT:List (List Nat × Nat × Int):=[([65],0,9),([66],22,10)]
def x10fT:MF:=⟨[clsN (fun i=>decide (i=97)),clsN (fun i=>decide (i=98)),mkN 3 [0,1],mkN 5 [2],callN 0,mkN 0 [],mkN 4 [4,5],mkN 7 [6],mkN 9 [7],mkN 4 [3,8],⟨1,[],0,0,72057654167470080,0,0⟩],[([66],16)]⟩
theorem yahu:zaz x10T=.ok x10rT x10fT:=by
 unfold zaz;rw[yahs];kernel_rfl
theorem yajj:dupO x10rT=none:=jb
theorem yajk:undO (nmR x10rT) x10fT=none:=jb
theorem yac0:zam x10rT=x10R:=jb
theorem yac1:zan (nmR x10rT) (nmC x10fT) x10fT.nodes=x10N:=jb
theorem yahv:∃a dp,zaz x10B=.bad a dp:=by
 unfold zaz;rw[yaht];exact⟨_,_,rfl⟩
end
