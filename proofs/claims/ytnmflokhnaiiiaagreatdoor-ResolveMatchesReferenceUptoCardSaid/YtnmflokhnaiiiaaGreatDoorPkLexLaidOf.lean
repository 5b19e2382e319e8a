/- What the rows' condition on the two listed variables gives a walk of the lexer's laws; a world that meets it. -/
import Derived.Test.YtnmflokhnaiiiaaGreatDoorRows
import Derived.ChangeSame
import Derived.ChangeVars
import Derived.JoinedOf
import Derived.RowKit
import Derived.RowKitTokens
import Derived.LaidLaws
import Derived.LaidHandle
import Derived.Stop.Joined
import Derived.Test.YtnmflokhnaiiiaaGreatDoorPkY
set_option maxRecDepth 100000
set_option maxHeartbeats 2000000
namespace Go.Proofs.YtnmflokhnaiiiaaGreatDoor
open Go.ChangeShapes Go.WideShapes Go.RowKit
def sgB:List ByteArray:=[⟨#[60,45]⟩,⟨#[47]⟩,⟨#[38]⟩,⟨#[33]⟩,⟨#[63]⟩,⟨#[42]⟩,⟨#[43]⟩,⟨#[40]⟩,⟨#[41]⟩,⟨#[46]⟩]
theorem zp7:sgB.length=10:=rfl
theorem z6t (i:Nat)(h:i<10):sgB.getD i ⟨#[]⟩=sgS i:=by
 rcases(by omega:i=0∨i=1∨i=2∨i=3∨i=4∨i=5∨i=6∨i=7∨i=8∨i=9) with rfl|rfl|rfl|rfl|rfl|rfl|rfl|rfl|rfl|rfl<;>rfl
abbrev laidL:List (String × DataW Unit):=[("errors.errorType",Rows.laid_errors_errorType),("vetch/lexer.signs",Rows.laid_vetch_lexer_signs)]
theorem own:ownKnob Tryz.prog.godebug=none:=by kernel_rfl
theorem g_et:Tryz.prog.globalNamed "errors.errorType" = some 0:=by kernel_rfl
theorem zw9:Tryz.prog.globalNamed "vetch/lexer.signs" = some 1:=by kernel_rfl
theorem z4y:(Tryz.prog.globals[1]?).map (·.type)=some 168:=by kernel_rfl
theorem z6u:(Tryz.prog.cutTypes.find? (·.1 == "internal/reflectlite.rtype")).map (·.2)=some 179:=by kernel_rfl
theorem sizeT:∃n,Tryz.prog.types.size=n/\((List.range n).filter fun t=>Tryz.prog.rowNamed t [101,114,114,111,114])=[28]:=⟨_,rfl,by kernel_rfl⟩
theorem ztk:Tryz.prog.cellsOf 168=10:=by kernel_rfl
theorem zn3:Tryz.prog.cellsOf 9=1:=by kernel_rfl
theorem zxa {W:World}(h:handlesMet Tryz.prog [("errors.errorType",Rows.laid_errors_errorType)] W):W.cell? ⟨0,0,none⟩=some (rt 28):=by
 obtain⟨name,u,ty,e1,e2,e3,e4,e5⟩:=h _ (List.mem_singleton.2 rfl);have en:name=[101,114,114,111,114]:=(Option.some.inj e1).symm;subst en;obtain rfl:=Option.some.inj (z6u.symm.trans e2);obtain⟨n,hn,hf⟩:=sizeT;have hm:ty ∈ (List.range n).filter fun t=>Tryz.prog.rowNamed t [101,114,114,111,114]:=List.mem_filter.2 ⟨List.mem_range.2 (by rw[<-hn];exact e3),e4⟩
 rw[hf] at hm;obtain rfl:=List.mem_singleton.1 hm;have hh:typeHandle Tryz.prog 28=hnd 28:=by kernel_rfl
 rw[hh] at e5;simpa using World.var?_cell g_et e5 0
theorem zp8 {H:Type}{enc:TypeId × Value->H}{w:World}{base:Nat}{sp:Nat->Bool}{held:Bool}{fuel:Nat}{c:Value}{y:DataW H × List MemPlace}
  (h:DataW.trod enc Tryz.prog w base sp held fuel 9 [c]=some y):∃s:ByteArray,c=.string s/\y.1=.lit (.string s.data.toList):=by
 cases fuel with
 |zero=>simp[DataW.trod] at h
 |succ fuel=>
  cases c<;>simp[DataW.trod,Tryz.underlying9] at h
  obtain⟨-,rfl⟩:=h;exact⟨_,rfl,rfl⟩
theorem z6v {s:ByteArray}{l:List UInt8}(h:s.data.toList=l):s=⟨l.toArray⟩:=by
 obtain⟨⟨x⟩⟩:=s;simp at h;rw[h]
theorem zxb {α β:Type}(f:α->Option β):∀(l:List α) (ys:List β),l.mapM f=some ys->∀(i:Nat) (a:α),l[i]?=some a->f a=ys[i]?
 | [],_,_,i,a,h=>by simp at h
 |x::r,ys,hm,i,a,h=>by
  simp only[List.mapM_cons,Option.bind_eq_bind,Option.bind_eq_some_iff,Option.pure_def,Option.some.injEq] at hm;obtain⟨y,hy,zs,hz,rfl⟩:=hm;cases i with
  |zero=>
   simp at h;subst h;simpa using hy
  |succ i=>simpa using zxb f r zs hz i a (by simpa using h)
theorem ztl:(Rows.laid_vetch_lexer_signs:DataW Unit)=.agg (sgB.map fun s=>.lit (.string s.data.toList)):=rfl
theorem z0o {W:World}(h:laidMet Tryz.prog [("vetch/lexer.signs",Rows.laid_vetch_lexer_signs)] W):∀i,i<10->W.cell? ⟨1,i,none⟩=some (.string (sgB.getD i ⟨#[]⟩)):=by
 obtain⟨ps,⟨g,t,cs,fuel,p,q,hg,ht,hvar,hd,_,_⟩,_⟩:=h;obtain rfl:=Option.some.inj (zw9.symm.trans hg);obtain rfl:=Option.some.inj (z4y.symm.trans ht);have hcs:cs=(sgB.map Value.string).toArray:=by
  clear hvar hg ht;obtain⟨l⟩:=cs;cases fuel with
  |zero=>simp[DataW.trod] at hd
  |succ fuel=>
   simp only[DataW.trod,Tryz.underlying168,ztk,zn3] at hd;split at hd
   ·rename_i hl
    rw[ztl] at hd;obtain⟨xs,hm,he⟩:=Option.map_eq_some_iff.1 hd;simp only[Prod.mk.injEq,DataW.agg.injEq] at he;have hx:=he.1;clear hd he;have key:∀i,i<10->l[i]?=(sgB[i]?).map Value.string:=by
     intro i hi;obtain⟨c,hc⟩:∃c,l[i]?=some c:=⟨l[i]'(by omega),List.getElem?_eq_getElem (by omega)⟩;have hk:List.take 1 (List.drop (i*1) l)=[c]:=by
      rw[Nat.mul_one,List.take_one,List.head?_drop,hc];rfl
     have h1:=zxb _ _ _ hm i i (by rw[List.getElem?_range hi]);simp only[hk] at h1;obtain⟨y,hy⟩:∃y,xs[i]?=some y:=by
      have h2:(xs.map (·.1))[i]?=((sgB.map fun s=>(DataW.lit (Lit.string s.data.toList):DataW Unit)))[i]?:=by rw[hx]
      rw[List.getElem?_map,List.getElem?_map] at h2;have hn:i<sgB.length:=by rw[zp7];exact hi
      rw[List.getElem?_eq_getElem hn] at h2;cases hy:xs[i]? with
      |none=>rw[hy] at h2;simp at h2
      |some y=>exact⟨y,rfl⟩
     rw[hy] at h1;obtain⟨s,rfl,hs⟩:=zp8 h1;have h3:(xs.map (·.1))[i]?=((sgB.map fun s=>(DataW.lit (Lit.string s.data.toList):DataW Unit)))[i]?:=by rw[hx]
     rw[List.getElem?_map,List.getElem?_map,hy] at h3;have hn:i<sgB.length:=by rw[zp7];exact hi
     rw[List.getElem?_eq_getElem hn] at h3 ⊢;simp only[Option.map_some,Option.some.injEq,hs,DataW.lit.injEq,Lit.string.injEq] at h3;rw[hc,Option.map_some];rw[z6v h3]
    have hll:l=sgB.map Value.string:=by
     apply List.ext_getElem?;intro i;rcases Nat.lt_or_ge i 10 with hi|hi
     ·rw[key i hi,List.getElem?_map]
     ·rw[List.getElem?_eq_none (by omega),List.getElem?_eq_none (by simp[zp7];omega)]
    rw[hll]
   ·cases hd
 intro i hi;have hc:=World.var?_cell zw9 hvar i;rw[hc,hcs];have hh:i=0∨i=1∨i=2∨i=3∨i=4∨i=5∨i=6∨i=7∨i=8∨i=9:=by omega
 rcases hh with rfl|rfl|rfl|rfl|rfl|rfl|rfl|rfl|rfl|rfl<;>rfl
theorem zed {W:World}(h:laidMetH Tryz.prog laidL W):LexLaid W:=by
 have h':laidMet Tryz.prog [("vetch/lexer.signs",Rows.laid_vetch_lexer_signs)] W/\handlesMet Tryz.prog [("errors.errorType",Rows.laid_errors_errorType)] W:=h;exact⟨zxa h'.2,fun i hi=>by rw[<-z6t i hi];exact z0o h'.1 i hi⟩
noncomputable def zce (os:Os):World:=
 let w0:=World.holding Tryz.prog os ⟨#[],#[],[]⟩
 { w0 with heap:=(w0.heap.modify 0 fun
   |.cells _ t frozen=>.cells #[rt 28] t frozen
   |o=>o).modify 1 fun
   |.cells _ t frozen=>.cells (sgB.map Value.string).toArray t frozen
   |o=>o }
theorem zct (os:Os)(args:Array Value):laidMetH Tryz.prog laidL ((zce os).forCall (fun _ _=>0) ⟨#[],args,[]⟩).memory:=
 laidMetH_of_parts (laidMet_of_run' 8 (by kernel_rfl) (by kernel_rfl)) (by kernel_rfl)
end Go.Proofs.YtnmflokhnaiiiaaGreatDoor
