/- The contracts of the reference's readers: in, digits, Read. -/
import Derived.Deep.QuietTactic
import Derived.BigQuiet
import Derived.IntWalk
import Derived.Test.YthhppmehhdlmnaaGreatDoorPzB
namespace Go.Proofs.YthhppmehhdlmnaaGreatDoor
open Go.RowKit
def zxg (l:List Nat)(p:Int):Value:=
 match rd l p with
 |none=>.tuple #[.int .i64 0,.int .i64 (-1)]
 |some (c,n)=>.tuple #[.int .i64 (c:Int),.int .i64 (p+(n:Int))]
def RReadIs (l:List Nat)(p:Int)(w:World)(e:Ending)(w':World):Prop:=e=.returned (zxg l p)/\∃n,w'=w.drewN n
theorem RReadIs.no {l:List Nat}{p:Int}{w w':World}(h:rd l p=none)(hw:∃n,w'=w.drewN n):RReadIs l p w (.returned (.tuple #[.int .i64 0,.int .i64 (-1)])) w':=by
 unfold RReadIs zxg;rw[h];exact⟨rfl,hw⟩
theorem RReadIs.yes {l:List Nat}{p:Int}{w w':World}{c n:Nat}{x y:Int}(h:rd l p=some (c,n))(hw:∃n,w'=w.drewN n)(hx:x=c)(hy:y=p+n):RReadIs l p w (.returned (.tuple #[.int .i64 x,.int .i64 y])) w':=by
 unfold RReadIs zxg;rw[h,hx,hy];exact⟨rfl,hw⟩
end Go.Proofs.YthhppmehhdlmnaaGreatDoor
