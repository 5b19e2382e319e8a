/- What an error of this program may be, as a tree; the value that stands for it; and that it lies in memory as it did as long as old memory stays as it was. No wa -/
import Derived.Test.YtmopdlbpkiaoeaaGreatDoorProg
import Derived.WalkKit
import Derived.ProofKit
import Derived.LaidEql
import Derived.Stop.Asserts
import Derived.RowKitTokens
import Derived.Lib.Hide
import Derived.Laws.Cells
import Derived.Deep.LoopGhost
import Derived.Outline
import Derived.Handy
import Derived.Defers
import Derived.Recover
import Derived.Tactics
import Derived.Tactics2
import Derived.Test.YtmopdlbpkiaoeaaGreatDoorPkB
namespace Go.Proofs.YtmopdlbpkiaoeaaGreatDoor
open Go.RowKit
inductive Err where
 |code (c:Int)
 |fault (c p:Int)
 |within (b:Nat) (r:ByteArray) (e:Err)
def Err.val:Err->Value
 |.code c=>.iface 60 (.int .i64 c)
 |.fault c p=>.iface 160 (.agg #[.int .i64 c,.int .i64 p])
 |.within b _ _=>.iface 149 (.pointer (some ⟨b,0,none⟩))
def Err.In (_w:World):Err->Prop
 |.code _=>True
 |.fault _ _=>True
 |.within b r e=>_w.cell? ⟨b,0,none⟩=some (.string r)/\_w.cell? ⟨b,1,none⟩=some e.val/\e.In _w
def Err.codeOf:Err->Option Int
 |.code c=>some c
 |.fault c _=>some c
 |.within _ _ e=>e.codeOf
theorem Err.In.kept {e:Err}{n:Nat}{w w1:World}(h:e.In w)(_hb:Below n w w1)(_hn:w.heap.size<=n):e.In w1:=by
 induction e with
 |code c=>trivial
 |fault c p=>trivial
 |within b r e ih=>
  obtain⟨h0,h1,h2⟩:=h;have hl:=zai h0;exact⟨by rw[(bcell _hb).1 _ _ (by omega)];exact h0,by rw[(bcell _hb).1 _ _ (by omega)];exact h1,ih h2⟩
theorem Err.val_ne (e:Err):∃t v,e.val=.iface t v:=by
 cases e<;>exact⟨_,_,rfl⟩
open Go.RowKit Go.Extern.Stop Go.Stop Go.Extern
abbrev hnd (t:Nat):Value:=.pointer (some ⟨4,t,none⟩)
abbrev rt (t:Nat):Value:=.iface 208 (.agg #[hnd t])
end Go.Proofs.YtmopdlbpkiaoeaaGreatDoor
namespace Go.Proofs.YtmopdlbpkiaoeaaGreatDoor
open Go.RowKit Go.Extern.Stop Go.Stop Go.Extern
end Go.Proofs.YtmopdlbpkiaoeaaGreatDoor
namespace Go.Proofs.YtmopdlbpkiaoeaaGreatDoor
open Go.RowKit
theorem zvc (c p:Int)(w:World) :
  Calls Tryz.prog 73 #[.int .i64 c,.int .i64 p] w fun ev w'=>ev=.returned (.iface 160 (.agg #[.int .i64 c,.int .i64 p]))/\w'=w:=by
 go_enter Tryz.func73,Tryz.ntmps73;go_wp2;go_ret;exact⟨rfl,rfl⟩
theorem zki (r:ByteArray)(w:World) :
  Calls Tryz.prog 58 #[.string r,.nilIface] w fun ev w'=>ev=.returned .nilIface/\w'=w:=by
 go_enter Tryz.func58,Tryz.ntmps58;go_wp2;go_ret;exact⟨rfl,rfl⟩
end Go.Proofs.YtmopdlbpkiaoeaaGreatDoor
