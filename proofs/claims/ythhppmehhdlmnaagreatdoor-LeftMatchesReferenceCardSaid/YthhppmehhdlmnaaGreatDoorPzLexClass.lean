/- The contract of the reference's class: the set of a class, and the index behind it. -/
import Derived.Test.YthhppmehhdlmnaaGreatDoorPzB
import Derived.Test.YthhppmehhdlmnaaGreatDoorPzLexRef1
import Derived.Test.YthhppmehhdlmnaaGreatDoorPzEscRef
namespace Go.Proofs.YthhppmehhdlmnaaGreatDoor
open Go.RowKit
def setV (rs:List (Nat × Nat)):Value:=.agg #[.int .u64 (setW (inRs rs) 0),.int .u64 (setW (inRs rs) 1),.int .u64 (setW (inRs rs) 2),.int .u64 (setW (inRs rs) 3)]
def ClsIs (o:Option (List (Nat × Nat) × Nat))(p:Nat)(w:World)(e:Ending)(w':World):Prop:=
 match o with
 |none=>e=.returned (.tuple #[.agg #[.int .u64 0,.int .u64 0,.int .u64 0,.int .u64 0],.int .i64 (-1)])/\Below w.heap.size w w'
 |some (rs,m)=>e=.returned (.tuple #[setV rs,.int .i64 ((p+m:Nat):Int)])/\Below w.heap.size w w'
theorem ClsIs.no {o:Option (List (Nat × Nat) × Nat)}{p:Nat}{w w':World}(h:o=none)(hb:Below w.heap.size w w') :
  ClsIs o p w (.returned (.tuple #[.agg #[.int .u64 0,.int .u64 0,.int .u64 0,.int .u64 0],.int .i64 (-1)])) w':=by
 subst h;exact⟨rfl,hb⟩
theorem ClsIs.yes {o:Option (List (Nat × Nat) × Nat)}{p m:Nat}{w w':World}{rs:List (Nat × Nat)}{x:Int}(h:o=some (rs,m))(hx:x=((p+m:Nat):Int))(hb:Below w.heap.size w w') :
  ClsIs o p w (.returned (.tuple #[.agg #[.int .u64 (setW (inRs rs) 0),.int .u64 (setW (inRs rs) 1),.int .u64 (setW (inRs rs) 2),.int .u64 (setW (inRs rs) 3)],.int .i64 x])) w':=by
 subst h hx;exact⟨rfl,hb⟩
theorem BAt.drewN {f:Nat->Bool}{B n:Nat}{w:World}(h:BAt f B w):BAt f B (w.drewN n):=fun j hj=>by simpa using h j hj
theorem BAt.congr {f g:Nat->Bool}{B:Nat}{w:World}(h:BAt f B w)(e:∀i,i<256->f i=g i):BAt g B w:=fun j hj=>by rw[<-e j hj];exact h j hj
end Go.Proofs.YthhppmehhdlmnaaGreatDoor
