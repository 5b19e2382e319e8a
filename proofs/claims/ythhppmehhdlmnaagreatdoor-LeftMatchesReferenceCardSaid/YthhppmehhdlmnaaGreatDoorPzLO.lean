/- What the rows' condition on the listed variable gives a walk of stage 13's laws; a world that meets it. Written by wip/gen/leftholds.py. -/
import Derived.Test.YthhppmehhdlmnaaGreatDoorRows
import Derived.ChangeSame
import Derived.ChangeVars
import Derived.JoinedOf
import Derived.RowKit
import Derived.RowKitTokens
import Derived.LaidLaws
import Derived.LaidHandle
import Derived.Stop.Joined
import Derived.Test.YthhppmehhdlmnaaGreatDoorPzLexStr
set_option maxRecDepth 100000
set_option maxHeartbeats 2000000
namespace Go.Proofs.YthhppmehhdlmnaaGreatDoor
open Go.ChangeShapes Go.WideShapes Go.RowKit
def sgB:List ByteArray:=[⟨#[60,45]⟩,⟨#[47]⟩,⟨#[38]⟩,⟨#[33]⟩,⟨#[63]⟩,⟨#[42]⟩,⟨#[43]⟩,⟨#[40]⟩,⟨#[41]⟩,⟨#[46]⟩]
theorem zom:sgB.length=10:=rfl
theorem z74 (i:Nat)(h:i<10):sgB.getD i ⟨#[]⟩=sgS i:=by
 rcases(by omega:i=0∨i=1∨i=2∨i=3∨i=4∨i=5∨i=6∨i=7∨i=8∨i=9) with rfl|rfl|rfl|rfl|rfl|rfl|rfl|rfl|rfl|rfl<;>rfl
abbrev laidS:List (String × DataW Unit):=[("vetch/lexer.signs",Rows.laid_vetch_lexer_signs)]
theorem own:ownKnob Tryz.prog.godebug=none:=by kernel_rfl
theorem zu2:Tryz.prog.globalNamed "vetch/lexer.signs" = some 1:=by kernel_rfl
theorem z4q:(Tryz.prog.globals[1]?).map (·.type)=some 212:=by kernel_rfl
theorem zsr:Tryz.prog.cellsOf 212=10:=by kernel_rfl
theorem zmn:Tryz.prog.cellsOf 9=1:=by kernel_rfl
theorem zon {H:Type}{enc:TypeId × Value->H}{w:World}{base:Nat}{sp:Nat->Bool}{held:Bool}{fuel:Nat}{c:Value}{y:DataW H × List MemPlace}
  (h:DataW.trod enc Tryz.prog w base sp held fuel 9 [c]=some y):∃s:ByteArray,c=.string s/\y.1=.lit (.string s.data.toList):=by
 cases fuel with
 |zero=>simp[DataW.trod] at h
 |succ fuel=>
  cases c<;>simp[DataW.trod,Tryz.underlying9] at h
  obtain⟨-,rfl⟩:=h;exact⟨_,rfl,rfl⟩
theorem z77 {s:ByteArray}{l:List UInt8}(h:s.data.toList=l):s=⟨l.toArray⟩:=by
 obtain⟨⟨x⟩⟩:=s;simp at h;rw[h]
theorem zu3 {α β:Type}(f:α->Option β):∀(l:List α) (ys:List β),l.mapM f=some ys->∀(i:Nat) (a:α),l[i]?=some a->f a=ys[i]?
 | [],_,_,i,a,h=>by simp at h
 |x::r,ys,hm,i,a,h=>by
  simp only[List.mapM_cons,Option.bind_eq_bind,Option.bind_eq_some_iff,Option.pure_def,Option.some.injEq] at hm;obtain⟨y,hy,zs,hz,rfl⟩:=hm;cases i with
  |zero=>
   simp at h;subst h;simpa using hy
  |succ i=>simpa using zu3 f r zs hz i a (by simpa using h)
theorem zss:(Rows.laid_vetch_lexer_signs:DataW Unit)=.agg (sgB.map fun s=>.lit (.string s.data.toList)):=rfl
theorem zzw {W:World}(h:laidMet Tryz.prog [("vetch/lexer.signs",Rows.laid_vetch_lexer_signs)] W):∀i,i<10->W.cell? ⟨1,i,none⟩=some (.string (sgB.getD i ⟨#[]⟩)):=by
 obtain⟨ps,⟨g,t,cs,fuel,p,q,hg,ht,hvar,hd,_,_⟩,_⟩:=h;obtain rfl:=Option.some.inj (zu2.symm.trans hg);obtain rfl:=Option.some.inj (z4q.symm.trans ht);have hcs:cs=(sgB.map Value.string).toArray:=by
  clear hvar hg ht;obtain⟨l⟩:=cs;cases fuel with
  |zero=>simp[DataW.trod] at hd
  |succ fuel=>
   simp only[DataW.trod,Tryz.underlying212,zsr,zmn] at hd;split at hd
   ·rename_i hl
    rw[zss] at hd;obtain⟨xs,hm,he⟩:=Option.map_eq_some_iff.1 hd;simp only[Prod.mk.injEq,DataW.agg.injEq] at he;have hx:=he.1;clear hd he;have key:∀i,i<10->l[i]?=(sgB[i]?).map Value.string:=by
     intro i hi;obtain⟨c,hc⟩:∃c,l[i]?=some c:=⟨l[i]'(by omega),List.getElem?_eq_getElem (by omega)⟩;have hk:List.take 1 (List.drop (i*1) l)=[c]:=by
      rw[Nat.mul_one,List.take_one,List.head?_drop,hc];rfl
     have h1:=zu3 _ _ _ hm i i (by rw[List.getElem?_range hi]);simp only[hk] at h1;obtain⟨y,hy⟩:∃y,xs[i]?=some y:=by
      have h2:(xs.map (·.1))[i]?=((sgB.map fun s=>(DataW.lit (Lit.string s.data.toList):DataW Unit)))[i]?:=by rw[hx]
      rw[List.getElem?_map,List.getElem?_map] at h2;have hn:i<sgB.length:=by rw[zom];exact hi
      rw[List.getElem?_eq_getElem hn] at h2;cases hy:xs[i]? with
      |none=>rw[hy] at h2;simp at h2
      |some y=>exact⟨y,rfl⟩
     rw[hy] at h1;obtain⟨s,rfl,hs⟩:=zon h1;have h3:(xs.map (·.1))[i]?=((sgB.map fun s=>(DataW.lit (Lit.string s.data.toList):DataW Unit)))[i]?:=by rw[hx]
     rw[List.getElem?_map,List.getElem?_map,hy] at h3;have hn:i<sgB.length:=by rw[zom];exact hi
     rw[List.getElem?_eq_getElem hn] at h3 ⊢;simp only[Option.map_some,Option.some.injEq,hs,DataW.lit.injEq,Lit.string.injEq] at h3;rw[hc,Option.map_some];rw[z77 h3]
    have hll:l=sgB.map Value.string:=by
     apply List.ext_getElem?;intro i;rcases Nat.lt_or_ge i 10 with hi|hi
     ·rw[key i hi,List.getElem?_map]
     ·rw[List.getElem?_eq_none (by omega),List.getElem?_eq_none (by simp[zom];omega)]
    rw[hll]
   ·cases hd
 intro i hi;have hc:=World.var?_cell zu2 hvar i;rw[hc,hcs];have hh:i=0∨i=1∨i=2∨i=3∨i=4∨i=5∨i=6∨i=7∨i=8∨i=9:=by omega
 rcases hh with rfl|rfl|rfl|rfl|rfl|rfl|rfl|rfl|rfl|rfl<;>rfl
theorem sgn13 {W:World}(h:laidMetH Tryz.prog laidS W):SignsAt W:=by
 have h':laidMet Tryz.prog laidS W:=h;exact fun i hi=>by rw[<-z74 i hi];exact zzw h' i hi
noncomputable def zgh (os:Os):World:=
 let w0:=World.holding Tryz.prog os ⟨#[],#[],[]⟩
 { w0 with heap:=w0.heap.modify 1 fun
   |.cells _ t frozen=>.cells (sgB.map Value.string).toArray t frozen
   |o=>o }
theorem ze6 (os:Os)(args:Array Value):laidMetH Tryz.prog laidS ((zgh os).forCall (fun _ _=>0) ⟨#[],args,[]⟩).memory:=
 show laidMet Tryz.prog laidS _ from laidMet_of_run' 8 (by kernel_rfl) (by kernel_rfl)
theorem u8_of {c:Int}(h:(Lit.int .u8 c).wf=true):0<=c/\c<=255:=by
 simp[Lit.wf,IntKind.min,IntKind.max,IntKind.signed,IntKind.bits] at h;omega
end Go.Proofs.YthhppmehhdlmnaaGreatDoor
