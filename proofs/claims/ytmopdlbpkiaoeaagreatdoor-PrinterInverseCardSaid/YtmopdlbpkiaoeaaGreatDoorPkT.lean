/- The reference: expression. The reference: expression, the walk. -/
import Derived.Deep.Cut
import Derived.Test.YtmopdlbpkiaoeaaGreatDoorPkC
import Derived.Test.YtmopdlbpkiaoeaaGreatDoorPkS
namespace Go.Proofs.YtmopdlbpkiaoeaaGreatDoor
section
open Go.RowKit
def Cel (R:RC)(x:SV):Array Value:=#[.slice x.la R.T.length x.lc,.int .i64 x.i,.slice x.ra x.rn x.rc,.slice x.na x.nn x.nc,.slice x.ca x.cn x.cc,.int .i64 x.bad,.bool x.dp,.bool R.one]
def Two (R:RC)(w:World)(x:SV)(W:World):Prop:=Bl W w.heap.size 167 (Cel R x)/\Bl W (w.heap.size+1) 167 zeroV/\Below w.heap.size w W
def KV (R:RC)(lo:Nat)(v:Value)(ks:List Int)(tq:List Value)(W:World):Prop:=W.ownsRow R.base 3 1 v ks.length (intsV ks)/\(∀b,v.ownBlock=some b->lo<=b)/\∀q,q ∈ tq->∀b,q.ownBlock=some b->v.ownBlock≠some b
section
variable {R:RC} {rs:List (List Nat × Nat × Int)} {w W W':World} {x:SV} {lo:Nat} {v:Value} {ks:List Int} {tq:List Value}
theorem Two.below (h:Two R w x W)(hb:Below W.heap.size W W'):Two R w x W':=⟨h.1.below hb,h.2.1.below hb,h.2.2.trans (hb.mono h.2.2.size)⟩
theorem KV.below (h:KV R lo v ks tq W)(hb:Below W.heap.size W W'):KV R lo v ks tq W':=⟨zab h.1 hb,h.2⟩
theorem KV.lt (h:KV R lo v ks tq W):∀b,v.ownBlock=some b->b<W.heap.size:=fun b hb=>(h.1.lt b hb).2
structure Gro (W W':World) (v v':Value):Prop where
 g:W.grownBy W' v.ownBlock
 n:v'.ownBlock=v.ownBlock∨v'.ownBlock=some W.heap.size
section
variable {v':Value} (hg:Gro W W' v v') (hK:KV R lo v ks tq W)
include hg hK
omit hg in
theorem KV.kind:∀g,v.ownBlock=some g->∃c fz,W.heap[g]?=some (.cells c 3 fz):=fun g hv=>Lib.ownsRow_kind hK.1 g hv
omit hK in
theorem Gro.kv {lo':Nat}{u:Value}{us:List Int}{tq':List Value}(h:KV R lo' u us tq' W)(hne:∀b,u.ownBlock=some b->v.ownBlock≠some b):KV R lo' u us tq' W':=by
 refine⟨h.1.kept hg.g ?_,h.2⟩;cases hu:u.ownBlock with
 |none=>exact .inl rfl
 |some b=>exact .inr (Ne.symm (hne b hu))
end
end
section
variable {R:RC} {rs:List (List Nat × Nat × Int)} {N:Nat} {w w1 W w5:World} {Q qs:List Value} {av kv v5:Value} {all ks:List Int} {top:Bool} {pre sq:List Tok->MF->PO} {L m lo:Nat} {O:PO} {x:SV} {tq:List Value} {a c:List Tok} {g:MF} {dp:Bool} {o:Obj}
end
end
section
open Go.RowKit
end
end Go.Proofs.YtmopdlbpkiaoeaaGreatDoor
