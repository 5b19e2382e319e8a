/- Layer 13: slices.Sorted(maps.Keys(m)) and slices.Reverse, by the library's contracts. Written by wip/gen/leftsort.py. -/
import Derived.Shelf.SlIterI.Nil
import Derived.Shelf.SortM.Plain
import Derived.Shelf.SortM.SortNone
import Derived.Shelf.Slices.Reverse
import Derived.Test.YthhppmehhdlmnaaGreatDoorPzLA
namespace Go.Proofs.YthhppmehhdlmnaaGreatDoor
section
open Go.RowKit Go.Maps Go.Sort Go.Shelf
def zju:Ren:=⟨fun|7=>34|10=>64|n=>n,fun|0=>0|4=>4|23=>45|26=>3|3=>4|27=>55|33=>96|28=>56|n=>n,fun|n=>n⟩
theorem z3s:Go.Proofs.SlLaysZI.n7 Tryz.prog zju:={
 mixed:=by kernel_rfl
 f7:=⟨Tryz.f34.name,by decide,Tryz.func34.trans (congrArg some (by kernel_rfl))⟩
 f10:=⟨Tryz.f64.name,by decide,Tryz.func64.trans (congrArg some (by kernel_rfl))⟩
 t0:=Tryz.underlying0
 a0:=Tryz.isAgg0
 z0:=Tryz.sizeOf0
 v0:=Tryz.zeroValue0
 t4:=Tryz.underlying4
 a4:=Tryz.isAgg4
 z4:=Tryz.sizeOf4
 v4:=Tryz.zeroValue4
 t23:=Tryz.underlying45
 a23:=Tryz.isAgg45
 z23:=Tryz.sizeOf45
 v23:=Tryz.zeroValue45
 t26:=Tryz.underlying3
 a26:=Tryz.isAgg3
 z26:=Tryz.sizeOf3
 v26:=Tryz.zeroValue3
 t27:=Tryz.underlying55
 a27:=Tryz.isAgg55
 z27:=Tryz.sizeOf55
 v27:=Tryz.zeroValue55
 t28:=Tryz.underlying56
 a28:=Tryz.isAgg56
 z28:=Tryz.sizeOf56
 v28:=Tryz.zeroValue56
 t33:=Tryz.underlying96
 a33:=Tryz.isAgg96
 z33:=Tryz.sizeOf96
 v33:=Tryz.zeroValue96 }
def zg4:Ren:=⟨fun|6=>33|8=>62|11=>103|9=>63|n=>n,fun|0=>0|24=>29|26=>3|28=>56|33=>96|n=>n,fun|n=>n⟩
theorem z1a:Go.Proofs.SlLaysZI.n6 Tryz.prog zg4:={
 mixed:=by kernel_rfl
 f6:=⟨Tryz.f33.name,by decide,Tryz.func33.trans (congrArg some (by kernel_rfl))⟩
 f8:=⟨Tryz.f62.name,by decide,Tryz.func62.trans (congrArg some (by kernel_rfl))⟩
 f11:=⟨Tryz.f103.name,by decide,Tryz.func103.trans (congrArg some (by kernel_rfl))⟩
 t0:=Tryz.underlying0
 a0:=Tryz.isAgg0
 z0:=Tryz.sizeOf0
 v0:=Tryz.zeroValue0
 t24:=Tryz.underlying29
 a24:=Tryz.isAgg29
 z24:=Tryz.sizeOf29
 v24:=Tryz.zeroValue29
 t26:=Tryz.underlying3
 a26:=Tryz.isAgg3
 z26:=Tryz.sizeOf3
 v26:=Tryz.zeroValue3
 t28:=Tryz.underlying56
 a28:=Tryz.isAgg56
 z28:=Tryz.sizeOf56
 v28:=Tryz.zeroValue56
 i26:=by kernel_rfl }
def zta:Ren:=⟨fun|5=>63|7=>104|8=>105|10=>133|11=>134|12=>135|13=>136|14=>137|15=>138|16=>139|17=>140|18=>141|19=>142|20=>143|30=>153|31=>154|32=>155|33=>156|34=>157|35=>148|40=>166|n=>n,fun|0=>0|3=>3|4=>4|5=>5|9=>9|22=>29|25=>3|23=>29|32=>149|35=>179|36=>180|41=>103|44=>186|46=>47|53=>197|57=>201|63=>208|64=>209|n=>n,fun|n=>n⟩
theorem z3t:Go.Proofs.SlLaysM.n5 Tryz.prog zta:={
 mixed:=by kernel_rfl
 f5:=⟨Tryz.f63.name,by decide,Tryz.func63.trans (congrArg some (by kernel_rfl))⟩
 f7:=⟨Tryz.f104.name,by decide,Tryz.func104.trans (congrArg some (by kernel_rfl))⟩
 f8:=Tryz.func105.trans (congrArg some (by kernel_rfl))
 f10:=⟨Tryz.f133.name,by decide,Tryz.func133.trans (congrArg some (by kernel_rfl))⟩
 f11:=⟨Tryz.f134.name,by decide,Tryz.func134.trans (congrArg some (by kernel_rfl))⟩
 f12:=⟨Tryz.f135.name,by decide,Tryz.func135.trans (congrArg some (by kernel_rfl))⟩
 f13:=⟨Tryz.f136.name,by decide,Tryz.func136.trans (congrArg some (by kernel_rfl))⟩
 f14:=⟨Tryz.f137.name,by decide,Tryz.func137.trans (congrArg some (by kernel_rfl))⟩
 f15:=⟨Tryz.f138.name,by decide,Tryz.func138.trans (congrArg some (by kernel_rfl))⟩
 f16:=⟨Tryz.f139.name,by decide,Tryz.func139.trans (congrArg some (by kernel_rfl))⟩
 f17:=⟨Tryz.f140.name,by decide,Tryz.func140.trans (congrArg some (by kernel_rfl))⟩
 f18:=⟨Tryz.f141.name,by decide,Tryz.func141.trans (congrArg some (by kernel_rfl))⟩
 f19:=Tryz.func142.trans (congrArg some (by kernel_rfl))
 f20:=Tryz.func143.trans (congrArg some (by kernel_rfl))
 f30:=⟨Tryz.f153.name,by decide,Tryz.func153.trans (congrArg some (by kernel_rfl))⟩
 f31:=Tryz.func154.trans (congrArg some (by kernel_rfl))
 f32:=Tryz.func155.trans (congrArg some (by kernel_rfl))
 f33:=⟨Tryz.f156.name,by decide,Tryz.func156.trans (congrArg some (by kernel_rfl))⟩
 f34:=⟨Tryz.f157.name,by decide,Tryz.func157.trans (congrArg some (by kernel_rfl))⟩
 f35:=⟨Tryz.f148.name,by decide,Tryz.func148.trans (congrArg some (by kernel_rfl))⟩
 f40:=⟨Tryz.f166.name,by decide,Tryz.func166.trans (congrArg some (by kernel_rfl))⟩
 t0:=Tryz.underlying0
 a0:=Tryz.isAgg0
 z0:=Tryz.sizeOf0
 v0:=Tryz.zeroValue0
 t3:=Tryz.underlying3
 a3:=Tryz.isAgg3
 z3:=Tryz.sizeOf3
 v3:=Tryz.zeroValue3
 t4:=Tryz.underlying4
 a4:=Tryz.isAgg4
 z4:=Tryz.sizeOf4
 v4:=Tryz.zeroValue4
 t5:=Tryz.underlying5
 a5:=Tryz.isAgg5
 z5:=Tryz.sizeOf5
 v5:=Tryz.zeroValue5
 t9:=Tryz.underlying9
 a9:=Tryz.isAgg9
 z9:=Tryz.sizeOf9
 v9:=Tryz.zeroValue9
 t22:=Tryz.underlying29
 a22:=Tryz.isAgg29
 z22:=Tryz.sizeOf29
 v22:=Tryz.zeroValue29
 t23:=Tryz.underlying29
 a23:=Tryz.isAgg29
 z23:=Tryz.sizeOf29
 v23:=Tryz.zeroValue29
 t25:=Tryz.underlying3
 a25:=Tryz.isAgg3
 z25:=Tryz.sizeOf3
 v25:=Tryz.zeroValue3
 t32:=Tryz.underlying149
 a32:=Tryz.isAgg149
 z32:=Tryz.sizeOf149
 v32:=Tryz.zeroValue149
 t35:=Tryz.underlying179
 a35:=Tryz.isAgg179
 z35:=Tryz.sizeOf179
 v35:=Tryz.zeroValue179
 t36:=Tryz.underlying180
 a36:=Tryz.isAgg180
 z36:=Tryz.sizeOf180
 v36:=Tryz.zeroValue180
 t41:=Tryz.underlying103
 a41:=Tryz.isAgg103
 z41:=Tryz.sizeOf103
 v41:=Tryz.zeroValue103
 t44:=Tryz.underlying186
 a44:=Tryz.isAgg186
 z44:=Tryz.sizeOf186
 v44:=Tryz.zeroValue186
 t46:=Tryz.underlying47
 a46:=Tryz.isAgg47
 z46:=Tryz.sizeOf47
 v46:=Tryz.zeroValue47
 t53:=Tryz.underlying197
 a53:=Tryz.isAgg197
 z53:=Tryz.sizeOf197
 v53:=Tryz.zeroValue197
 t57:=Tryz.underlying201
 a57:=Tryz.isAgg201
 z57:=Tryz.sizeOf201
 v57:=Tryz.zeroValue201
 t63:=Tryz.underlying208
 a63:=Tryz.isAgg208
 z63:=Tryz.sizeOf208
 v63:=Tryz.zeroValue208
 t64:=Tryz.underlying209
 a64:=Tryz.isAgg209
 z64:=Tryz.sizeOf209
 v64:=Tryz.zeroValue209 }
def z8l:Ren:=⟨fun|112=>108|n=>n,fun|0=>0|3=>3|4=>4|28=>29|n=>n,fun|n=>n⟩
theorem z5y:Go.Proofs.Lays.n112 Tryz.prog z8l:={
 mixed:=by kernel_rfl
 f112:=Tryz.func108.trans (congrArg some (by kernel_rfl))
 t0:=Tryz.underlying0
 a0:=Tryz.isAgg0
 z0:=Tryz.sizeOf0
 v0:=Tryz.zeroValue0
 t3:=Tryz.underlying3
 a3:=Tryz.isAgg3
 z3:=Tryz.sizeOf3
 v3:=Tryz.zeroValue3
 t4:=Tryz.underlying4
 a4:=Tryz.isAgg4
 z4:=Tryz.sizeOf4
 v4:=Tryz.zeroValue4
 t28:=Tryz.underlying29
 a28:=Tryz.isAgg29
 z28:=Tryz.sizeOf29
 v28:=Tryz.zeroValue29 }
theorem z1b (m:Nat):AnyZI.SortsIn Tryz.prog zg4 Fence.wide m:=
 ⟨fun blk off cap ss W hH hblk hsz=>callsIn_wide.2 (AnyM.slices_Sort_int z3t blk off cap ss W hH hblk hsz),
  fun p cap W=>callsIn_wide.2 (AnyM.slices_Sort_int_none z3t p cap W)⟩
theorem z1c (mb:Option Nat)(W:World):Calls Tryz.prog 34 #[.map mb] W fun e w'=>e=.returned (.func (.func 64) #[] #[.pointer (some ⟨W.heap.size,0,none⟩)])/\w'=W.alloc (.cells #[.map mb] 45):=
 (callsIn_wide (n:=5)).1 (AnyZI.keys_in z3s Fence.wide 5 trivial rfl mb W)
def Asc (l:List Nat):Prop:=l.Pairwise (· < ·)
theorem Asc.nodup {l:List Nat}(h:Asc l):l.Nodup:=h.imp fun h=>Nat.ne_of_lt h
theorem Asc.same:∀ {l m:List Nat},Asc l->Asc m->(∀x,x ∈ l↔x ∈ m)->l=m
 | [],[],_,_,_=>rfl
 | [],b::m,_,_,h=>absurd ((h b).2 (List.mem_cons_self ..)) List.not_mem_nil
 |a::l,[],_,_,h=>absurd ((h a).1 (List.mem_cons_self ..)) List.not_mem_nil
 |a::l,b::m,hl,hm,h=>by
  obtain⟨h1,h2⟩:=List.pairwise_cons.1 hl;obtain⟨g1,g2⟩:=List.pairwise_cons.1 hm;have hab:a=b:=by
   rcases List.mem_cons.1 ((h a).1 (List.mem_cons_self ..)) with e|e
   ·exact e
   ·rcases List.mem_cons.1 ((h b).2 (List.mem_cons_self ..)) with f|f
    ·exact f.symm
    ·have:=g1 a e;have:=h1 b f;omega
  subst hab;rw[Asc.same h2 g2 fun x=>?_];constructor
  ·intro hx
   rcases List.mem_cons.1 ((h x).1 (List.mem_cons_of_mem _ hx)) with e|e
   ·have:=h1 x hx;omega
   ·exact e
  ·intro hx
   rcases List.mem_cons.1 ((h x).2 (List.mem_cons_of_mem _ hx)) with e|e
   ·have:=g1 x hx;omega
   ·exact e
theorem z1d {l:List Nat}(h:Asc l):(l.map fun(k:Nat)=>(k:Int)).mergeSort (fun x y=>decide (x<=y))=l.map fun(k:Nat)=>(k:Int):=by
 refine List.mergeSort_of_pairwise ?_;rw[List.pairwise_map];exact h.imp fun h=>by simp;omega
theorem MZ.keys {w:World}{b n:Nat}{m:Nat->Option Value}{D:DataW Value}{l:List Nat}(h1:w.ownsMap Tryz.prog 3 heldR b n D)(h3:∀k:Nat,∀z,D.atKey (.int .i64 (k:Int)) z=(match m k with|some v=>.held v|none=>z))(h4:∀l,has D l=true->∃k:Nat,k<=1000/\l=.int .i64 (k:Int)/\(m k).isSome=true)
  (ha:Asc l) (hm:∀k,k ∈ l↔(m k).isSome=true):(l.map fun(k:Nat)=>(k:Int)).Perm (intKeys D):=by
 obtain⟨es,rfl,hpw,hkl⟩:=h1.entries zrj;refine perm_intKeys hpw (fun p hp=>?_) ?_ (fun x=>?_)
 ·have:has (DataW.map es) p.1=true:=by
   rw[has_eq,List.any_eq_true];exact⟨p,hp,WideAt.sameKey_self (hkl p hp)⟩
  obtain⟨k,-,hk,-⟩:=h4 _ this;exact⟨_,hk⟩
 ·rw[List.nodup_iff_pairwise_ne,List.pairwise_map]
  exact ha.imp fun h=>by omega
 ·rw[List.mem_map]
  constructor
  ·rintro⟨k,hk,rfl⟩
   have hs:=(hm k).1 hk;cases hv:m k with
   |none=>rw[hv] at hs;cases hs
   |some v=>exact has_true_of_atKey (y:=.held v) fun z=>by rw[h3 k z,hv]
  ·intro hx
   obtain⟨k,-,hk,hs⟩:=h4 _ hx;injection hk with _ hk;exact⟨k,(hm k).2 hs,hk.symm⟩
theorem znd {w:World}{b n:Nat}{D:DataW Value}(h:w.ownsMap Tryz.prog 3 heldR b n D):Maps.size D<=n:=by
 obtain⟨es,clock,-,-,hs,rfl⟩:=h;show(List.foldr DataW.insert [] _).length<=n;rw[length_sorted,List.length_map];exact hs
theorem ztb (b:Nat)(m:Nat->Option Value)(l:List Nat)(w:World)(h:MZ w b m)(ha:Asc l)(hm:∀k,k ∈ l↔(m k).isSome=true) :
  Calls Tryz.prog 33 #[.func (.func 64) #[] #[.pointer (some ⟨w.heap.size,0,none⟩)]] (w.alloc (.cells #[.map (some b)] 45)) fun e w'=>∃v,e=.returned v/\w'.ownsRow w.heap.size 3 1 v l.length (l.map fun(k:Nat)=>.int .i64 (k:Int))/\Below w.heap.size w w':=by
 obtain⟨D,h1,h2,h3,h4⟩:=h;have hp:=MZ.keys h1 h3 h4 ha hm;have hsz:=znd h1;have hbl:=h1.lt;have hmax:Maps.size D<=maxLen:=by unfold maxLen;omega
 have hbytes:Maps.size D*8<=140737488355328:=by omega
 have hseq:SeqGives Fence.wide 2 Tryz.prog 64 #[.pointer (some ⟨w.heap.size,0,none⟩)] encZ (fun ss=>ss.Perm (intKeys D)) (Maps.size D) (w.alloc (.cells #[.map (some b)] 45)):=
  AnyZI.keys_gives (ρ:=zju) { z3s with } Fence.wide _ trivial rfl (by omega) w.heap.size b 1001 D _ (by simp) (by simp) (by
   obtain⟨es,clock,hb,Ft,hs,hD⟩:=h1;exact⟨es,clock,(Below.heap_alloc _ _ b hbl).trans hb,Ft,hs,hD⟩)
 have cS:=(callsIn_wide (n:=5)).1 (AnyZI.sorted_in z1a Fence.wide 5 trivial trivial trivial trivial rfl (by omega) (z1b _) (enters_of Tryz.func63 (by kernel_rfl) rfl) 64 #[.pointer (some ⟨w.heap.size,0,none⟩)] trivial (enters_of Tryz.func64 (by kernel_rfl) rfl) _ _ hmax hbytes _ hseq);refine Calls.mono cS fun e w' hh=>?_
 obtain⟨v,ss,he,hS,hrow,hnil,hb⟩:=hh;have e1:ss.mergeSort (fun x y=>decide (x<=y))=l.map fun(k:Nat)=>(k:Int):=(mergeSort_of_perm_i (hS.trans hp.symm)).trans (z1d ha)
 have e2:ss.length=l.length:=by have:=congrArg List.length e1;rwa [List.length_mergeSort,List.length_map] at this
 rw[e1,e2,List.map_map] at hrow;have hsw:=(Below.refl w.heap.size w).alloc (Nat.le_refl _) (.cells #[.map (some b)] 45);refine⟨v,he,ownsRow_base_a hrow (by simp),hsw.trans (hb.mono (by simp))⟩
theorem zwt (w:World):grow w #[]=w:=by simp[grow]
theorem zpd (base:Nat)(a:Option Addr)(cap:Nat)(l:List Nat)(w:World)(h:w.ownsRow base 3 1 (.slice a l.length cap) l.length (l.map fun(k:Nat)=>.int .i64 (k:Int)))(h0:0<l.length)(hl:l.length<=100000) :
  Calls Tryz.prog 108 #[.slice a l.length cap] w fun e w'=>e=.returned (.tuple #[])/\w'.ownsRow base 3 1 (.slice a l.length cap) l.length (l.reverse.map fun(k:Nat)=>.int .i64 (k:Int))/\Below base w w':=by
 rcases h.2 with⟨h1,-⟩|⟨g,cap',cur,hv,hbase,hgb,r1,r2,r3,r4⟩
 ·injection h1 with _ h1;omega
 ·injection hv with e1 e2 e3
  subst e1 e3;obtain⟨zs,hzs⟩:∃zs:List Int,zs=l.map fun(k:Nat)=>(k:Int):=⟨_,rfl⟩
  have hzl:zs.length=l.length:=by rw[hzs,List.length_map]
  have e4:(l.map fun(k:Nat)=>Value.int .i64 (k:Int))=zs.map encZ:=by rw[hzs,List.map_map];rfl
  have e5:(l.reverse.map fun(k:Nat)=>Value.int .i64 (k:Int))=zs.reverse.map encZ:=by rw[hzs,<-List.map_reverse,List.map_map];rfl
  rw[e4,Nat.mul_one,<-hzl] at r4;rw[e5,<-hzl];rw[<-hzl] at r1 hl;have hH:Holds encZ w g 0 zs.toArray:=holds_of_block_i hgb r4;refine(Any.slices_Reverse_int z5y g 0 cap zs w hH (by omega)).mono fun e w' hh=>?_
  obtain⟨he,n,rfl⟩:=hh;have k1:=ownsRow_sorted_i (ss:=zs) (ts:=zs.reverse) (n:=n) (os:=#[]) (by simp) hbase hgb r1 r2 r3;have k2:=grownBy_sorted_i (w:=w) (g:=g) (n:=n) (os:=#[]) zs.reverse.toArray;rw[zwt] at k1 k2;exact⟨he,k1,(Below.refl base w).grown k2 (by have:=(Array.getElem?_eq_some_iff.1 hgb).1;omega) (fun j hj=>by cases hj;exact hbase)⟩
end
end Go.Proofs.YthhppmehhdlmnaaGreatDoor
