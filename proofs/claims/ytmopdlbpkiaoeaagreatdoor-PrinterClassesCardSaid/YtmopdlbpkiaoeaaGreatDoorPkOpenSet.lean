/- A set that is handed in is four words: some function tells its members. -/
import Derived.Test.YtmopdlbpkiaoeaaGreatDoorProg
import Derived.Laws.IdiomArrays
import Derived.ProofKit
import Derived.Test.YtmopdlbpkiaoeaaGreatDoorPkB
namespace Go.Proofs.YtmopdlbpkiaoeaaGreatDoor
open Go.RowKit Go.WideShapes Go.ChangeShapes
set_option maxRecDepth 100000
theorem yafs {n:Int}(h:(Lit.int .u64 n).wf=true):0<=n/\n<=18446744073709551615:=by
 have e1:IntKind.u64.min=0:=rfl;have e2:IntKind.u64.max=18446744073709551615:=rfl;simp only[Lit.wf,e1,e2,Bool.and_eq_true,decide_eq_true_eq] at h;exact h
theorem yajn {H:Type}{enc:TypeId × Value->H}{w:World}{base b0:Nat}{r:Reach}{sp:Nat->Bool}{held:Bool}{v:Value}{d:DataW H}{ps:List MemPlace}
  (hu:Tryz.prog.underlying 41=some (.array 4 39)) (h64:Tryz.prog.underlying 39=some (.int .u64)) (hc:Tryz.prog.cellsOf 41=4) (hc1:Tryz.prog.cellsOf 39=1)
  (hval:Value.okWide Tryz.prog w r b0 41 v) (hd:DataW.Trod enc Tryz.prog w base sp held 41 v d ps) :
  ∃f:Nat->Bool,v=.agg #[.int .u64 (setW f 0),.int .u64 (setW f 1),.int .u64 (setW f 2),.int .u64 (setW f 3)]:=by
 unfold Value.okWide at hval;rw[hu] at hval;obtain⟨cs,rfl,hsz,-⟩:=hval;rw[hc] at hsz;obtain⟨l⟩:=cs
 match l,hsz with
 | [c0,c1,c2,c3],_=>
  obtain⟨fuel,hf⟩:=hd;obtain⟨y0,y1,y2,y3,n,-,h0,h1,h2,h3⟩:=trod_array4 hu hc1 hf;obtain⟨n0,e0,-,w0⟩:=DataW.trod_int h64 h0;obtain⟨n1,e1,-,w1⟩:=DataW.trod_int h64 h1;obtain⟨n2,e2,-,w2⟩:=DataW.trod_int h64 h2;obtain⟨n3,e3,-,w3⟩:=DataW.trod_int h64 h3;cases e0;cases e1;cases e2;cases e3;obtain⟨f,rfl,rfl,rfl,rfl⟩:=yags n0 n1 n2 n3 (yafs w0) (yafs w1) (yafs w2) (yafs w3);exact⟨f,rfl⟩
end Go.Proofs.YtmopdlbpkiaoeaaGreatDoor
