/- What the rows' condition on the two listed variables gives a walk of the lexer's laws; a world that meets it. What the rows' condition on the listed variables g -/
import Derived.Test.YtmopdlbpkiaoeaaGreatDoorRows
import Derived.ChangeSame
import Derived.ChangeVars
import Derived.JoinedOf
import Derived.RowKit
import Derived.RowKitTokens
import Derived.LaidLaws
import Derived.LaidHandle
import Derived.Stop.Joined
import Derived.Lib.LaidTab
import Derived.Test.YtmopdlbpkiaoeaaGreatDoorPqY
import Derived.Test.YtmopdlbpkiaoeaaGreatDoorPqPW
set_option maxRecDepth 100000
set_option maxHeartbeats 2000000
namespace Go.Proofs.YtmopdlbpkiaoeaaGreatDoor
open Go.Proofs.Tryz renaming prog->qab
open List renaming append_nil->qa6, getElem?_eq_getElem->qae, getElem?_eq_none->qcx, getElem?_map->qax, mem_singleton->qam
open Option renaming map_some->qfz
open Option.some renaming inj->qar
open Go.ChangeShapes Go.WideShapes Go.RowKit
variable {W:World}
def sgB:List ByteArray:=[⟨#[60,45]⟩,⟨#[47]⟩,⟨#[38]⟩,⟨#[33]⟩,⟨#[63]⟩,⟨#[42]⟩,⟨#[43]⟩,⟨#[40]⟩,⟨#[41]⟩,⟨#[46]⟩]
theorem zp7:sgB.length=10:=rfl
theorem z6t (i:Nat)(h:i<10):sgB.getD i ⟨#[]⟩=sgS i:=by
 rcases(by omega:i=0∨i=1∨i=2∨i=3∨i=4∨i=5∨i=6∨i=7∨i=8∨i=9) with rfl|rfl|rfl|rfl|rfl|rfl|rfl|rfl|rfl|rfl<;>rfl
theorem own:ownKnob qab.godebug=none:=jb
theorem g_et:qab.globalNamed "errors.errorType" = some 2:=jb
theorem zw9:qab.globalNamed "vetch/lexer.signs" = some 1:=jb
theorem z4y:(qab.globals[1]?).map (·.type)=some 162:=jb
theorem z6u:(qab.cutTypes.find? (·.1 == "internal/reflectlite.rtype")).map (·.2)=some 208:=jb
theorem sizeT:∃n,qab.types.size=n/\((List.range n).filter fun t=>qab.rowNamed t [101,114,114,111,114])=[35]:=⟨_,rfl,jb⟩
theorem ztk:qab.cellsOf 162=10:=jb
theorem zn3:qab.cellsOf 9=1:=jb
theorem zxa (h:handlesMet qab [("errors.errorType",Rows.laid_errors_errorType)] W):W.cell? ⟨2,0,none⟩=some (rt 35):=by
 obtain⟨name,u,ty,e1,e2,e3,e4,e5⟩:=h _ (qam.2 rfl);have en:name=[101,114,114,111,114]:=(qar e1).symm;subst en;obtain rfl:=qar (z6u.symm.trans e2);obtain⟨n,hn,hf⟩:=sizeT;have hm:ty ∈ (List.range n).filter fun t=>qab.rowNamed t [101,114,114,111,114]:=List.mem_filter.2 ⟨List.mem_range.2 (by rw[<-hn];exact e3),e4⟩
 rw[hf] at hm;obtain rfl:=qam.1 hm;have hh:typeHandle qab 35=hnd 35:=jb
 rw[hh] at e5;simpa using World.var?_cell g_et e5 0
theorem zp8 {H:Type}{enc:TypeId × Value->H}{w:World}{base:Nat}{sp:Nat->Bool}{held:Bool}{fuel:Nat}{c:Value}{y:DataW H × List MemPlace}
  (h:DataW.trod enc qab w base sp held fuel 9 [c]=some y):∃s:ByteArray,c=.string s/\y.1=.lit (.string s.data.toList):=by
 cases fuel with
 |zero=>simp[DataW.trod] at h
 |succ fuel=>
  cases c<;>simp[DataW.trod,Tryz.underlying9] at h
  obtain⟨-,rfl⟩:=h;exact⟨_,rfl,rfl⟩
theorem z6v {s:ByteArray}{l:List UInt8}(h:s.data.toList=l):s=⟨l.toArray⟩:=by
 obtain⟨⟨x⟩⟩:=s;simp at h;rw[h]
theorem zxb {α β:Type}(f:α->Option β):∀(l:List α) (ys:List β),l.mapM f=some ys->∀(i:Nat) (a:α),l[i]?=some a->f a=ys[i]?
 | [],_,_,i,a,h=>by simp at h
 |x::r,ys,hm,i,a,h=>by
  simp only[List.mapM_cons,Option.bind_eq_bind,Option.bind_eq_some_iff,Option.pure_def,Option.some.injEq] at hm;obtain⟨y,hy,zs,hz,rfl⟩:=hm;cases i with
  |zero=>
   simp at h;subst h;simpa using hy
  |succ i=>simpa using zxb f r zs hz i a (by simpa using h)
theorem ztl:(Rows.laid_vetch_lexer_signs:DataW Unit)=.agg (sgB.map fun s=>.lit (.string s.data.toList)):=rfl
theorem z0o (h:laidMet qab [("vetch/lexer.signs",Rows.laid_vetch_lexer_signs)] W):∀i,i<10->W.cell? ⟨1,i,none⟩=some (.string (sgB.getD i ⟨#[]⟩)):=by
 obtain⟨ps,⟨g,t,cs,fuel,p,q,hg,ht,hvar,hd,_,_⟩,_⟩:=h;obtain rfl:=qar (zw9.symm.trans hg);obtain rfl:=qar (z4y.symm.trans ht);have hcs:cs=(sgB.map Value.string).toArray:=by
  clear hvar hg ht;obtain⟨l⟩:=cs;cases fuel with
  |zero=>simp[DataW.trod] at hd
  |succ fuel=>
   simp only[DataW.trod,Tryz.underlying162,ztk,zn3] at hd;split at hd
   ·rename_i hl
    rw[ztl] at hd;obtain⟨xs,hm,he⟩:=Option.map_eq_some_iff.1 hd;simp only[Prod.mk.injEq,DataW.agg.injEq] at he;have hx:=he.1;clear hd he;have key:∀i,i<10->l[i]?=(sgB[i]?).map Value.string:=by
     intro i hi;obtain⟨c,hc⟩:∃c,l[i]?=some c:=⟨l[i]' U,qae U⟩;have hk:List.take 1 (List.drop (i*1) l)=[c]:=by
      rw[Nat.mul_one,List.take_one,List.head?_drop,hc];rfl
     have h1:=zxb _ _ _ hm i i (by rw[List.getElem?_range hi]);simp only[hk] at h1;obtain⟨y,hy⟩:∃y,xs[i]?=some y:=by
      have h2:(xs.map (·.1))[i]?=((sgB.map fun s=>(DataW.lit (Lit.string s.data.toList):DataW Unit)))[i]?:=by rw[hx]
      rw[qax,qax] at h2;have hn:i<sgB.length:=by rw[zp7];exact hi
      rw[qae hn] at h2;cases hy:xs[i]? with
      |none=>rw[hy] at h2;simp at h2
      |some y=>exact⟨y,rfl⟩
     rw[hy] at h1;obtain⟨s,rfl,hs⟩:=zp8 h1;have h3:(xs.map (·.1))[i]?=((sgB.map fun s=>(DataW.lit (Lit.string s.data.toList):DataW Unit)))[i]?:=by rw[hx]
     rw[qax,qax,hy] at h3;have hn:i<sgB.length:=by rw[zp7];exact hi
     rw[qae hn] at h3 ⊢;simp only[qfz,Option.some.injEq,hs,DataW.lit.injEq,Lit.string.injEq] at h3;rw[hc,qfz];rw[z6v h3]
    have hll:l=sgB.map Value.string:=by
     apply List.ext_getElem?;intro i;rcases Nat.lt_or_ge i 10 with hi|hi
     ·rw[key i hi,qax]
     ·rw[qcx U,qcx (by simp[zp7];omega)]
    rw[hll]
   ·cases hd
 intro i hi;have hc:=World.var?_cell zw9 hvar i;rw[hc,hcs];have hh:i=0∨i=1∨i=2∨i=3∨i=4∨i=5∨i=6∨i=7∨i=8∨i=9:=U
 rcases hh with rfl|rfl|rfl|rfl|rfl|rfl|rfl|rfl|rfl|rfl<;>rfl
theorem yad3 {P:Program}{x:String × DataW Unit}{r:List (String × DataW Unit)}(h:laidMet P (x::r) W):laidMet P [x] W:=by
 obtain⟨ps,⟨g,t,cs,fuel,p,q,hg,ht,hvar,hd,hr,rfl⟩,hn,hc⟩:=h;refine⟨_,⟨g,t,cs,fuel,p,[],hg,ht,hvar,hd,rfl,rfl⟩,?_,fun b off hm=>hc b off ?_⟩
 ·rw[qa6]
  exact(List.nodup_append.1 hn).1
 ·rw[qa6] at hm
  exact List.mem_append_left _ hm
theorem yad4 {P:Program}{x:String × DataW Unit}{r:List (String × DataW Unit)}(h:laidMet P (x::r) W):laidMet P r W:=by
 obtain⟨ps,⟨g,t,cs,fuel,p,q,hg,ht,hvar,hd,hr,rfl⟩,hn,hc⟩:=h;exact⟨q,hr,(List.nodup_append.1 hn).2.1,fun b off hm=>hc b off (List.mem_append_right _ hm)⟩
theorem yaak:qab.globalNamed "vetch/printer.signs" = some 0:=jb
theorem yai8:(qab.globals[0]?).map (·.type)=some 146:=jb
theorem yad5 (h:laidMet qab [("vetch/printer.signs",Rows.laid_vetch_printer_signs)] W):SgnAt W:=by
 have h2:laidMet qab [("vetch/printer.signs",Lib.tabData .u8 [0,0,0,0,0,42,43,63,38,33])] W:=h;have ht:=Lib.tabIs_of_head yaak yai8 Tryz.underlying146 Tryz.underlying5 jb jb h2;exact⟨ht.cell yaak 5 ja,ht.cell yaak 6 ja,ht.cell yaak 7 ja,ht.cell yaak 8 ja,ht.cell yaak 9 ja⟩
abbrev z9k:List (String × DataW Unit):=[("vetch/lexer.signs",Rows.laid_vetch_lexer_signs),("vetch/printer.signs",Rows.laid_vetch_printer_signs)]
abbrev yad6:List (String × DataW Unit):=[("errors.errorType",Rows.laid_errors_errorType),("vetch/lexer.signs",Rows.laid_vetch_lexer_signs),("vetch/printer.signs",Rows.laid_vetch_printer_signs)]
theorem yaeo (h:laidMetH qab yad6 W):SignsAt W/\SgnAt W/\W.cell? ⟨2,0,none⟩=some (rt 35):=by
 have h':laidMet qab z9k W/\handlesMet qab [("errors.errorType",Rows.laid_errors_errorType)] W:=h;exact⟨fun i hi=>by rw[<-z6t i hi];exact z0o (yad3 h'.1) i hi,yad5 (yad4 h'.1),zxa h'.2⟩
noncomputable def z9i (os:Os):World:=
 let w0:=World.holding qab os ⟨#[],#[],[]⟩
 { w0 with heap:=((w0.heap.modify 2 fun
   |.cells _ t frozen=>.cells #[rt 35] t frozen
   |o=>o).modify 1 fun
   |.cells _ t frozen=>.cells (sgB.map Value.string).toArray t frozen
   |o=>o).modify 0 fun
   |.cells _ t frozen=>.cells #[.int .u8 0,.int .u8 0,.int .u8 0,.int .u8 0,.int .u8 0,.int .u8 42,.int .u8 43,.int .u8 63,.int .u8 38,.int .u8 33] t frozen
   |o=>o }
theorem yacg (os:Os)(args:Array Value):laidMetH qab yad6 ((z9i os).forCall (fun _ _=>0) ⟨#[],args,[]⟩).memory:=
 laidMetH_of_parts (laidMet_of_run' 8 jb jb) jb
