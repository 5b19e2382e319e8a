/- What an error of this program may be, as a tree; the value that stands for it; and that it lies in memory as it did as long as old memory stays as it was. No wa -/
import Derived.Test.YthhppmehhdlmnaaGreatDoorProg
import Derived.WalkKit
import Derived.ProofKit
import Derived.LaidEql
import Derived.Stop.Asserts
import Derived.RowKitTokens
import Derived.Lib.Hide
import Derived.Laws.Cells
import Derived.Deep.LoopGhost
import Derived.Outline
import Derived.Handy
import Derived.Defers
import Derived.Recover
import Derived.Tactics
import Derived.Tactics2
import Derived.Test.YthhppmehhdlmnaaGreatDoorPzB
namespace Go.Proofs.YthhppmehhdlmnaaGreatDoor
open Go.RowKit
inductive Err where
 |code (c:Int)
 |fault (c p:Int)
 |within (b:Nat) (r:ByteArray) (e:Err)
def Err.val:Err->Value
 |.code c=>.iface 81 (.int .i64 c)
 |.fault c p=>.iface 132 (.agg #[.int .i64 c,.int .i64 p])
 |.within b _ _=>.iface 126 (.pointer (some ⟨b,0,none⟩))
def Err.ty:Err->Nat
 |.code _=>81
 |.fault _ _=>132
 |.within _ _ _=>126
def Err.deep:Err->Nat
 |.code _=>0
 |.fault _ _=>1
 |.within _ _ e=>e.deep+1
def Err.In (_w:World):Err->Prop
 |.code _=>True
 |.fault _ _=>True
 |.within b r e=>_w.cell? ⟨b,0,none⟩=some (.string r)/\_w.cell? ⟨b,1,none⟩=some e.val/\e.In _w
theorem Err.In.kept {e:Err}{n:Nat}{w w1:World}(h:e.In w)(_hb:Below n w w1)(_hn:w.heap.size<=n):e.In w1:=by
 induction e with
 |code c=>trivial
 |fault c p=>trivial
 |within b r e ih=>
  obtain⟨h0,h1,h2⟩:=h;have hl:=zac h0;exact⟨by rw[(bcell _hb).1 _ _ (by omega)];exact h0,by rw[(bcell _hb).1 _ _ (by omega)];exact h1,ih h2⟩
open Go.RowKit Go.Extern.Stop Go.Stop Go.Extern
abbrev hnd (t:Nat):Value:=.pointer (some ⟨2,t,none⟩)
def CodePost (w:World)(tb:Nat)(r:Option Int)(ev:Ending)(w':World):Prop:=
 match r with
 |none=>ev=.returned (.bool false)/\Below w.heap.size w w'
 |some c=>ev=.returned (.bool true)/\∃w1,Below w.heap.size w w1/\w'=w1.setCell ⟨tb,0,none⟩ (.int .i64 c)
def FaultPost (w:World)(tb:Nat)(r:Option (Int × Int))(ev:Ending)(w':World):Prop:=
 match r with
 |none=>ev=.returned (.bool false)/\Below w.heap.size w w'
 |some (c,p)=>ev=.returned (.bool true)/\∃w1,Below w.heap.size w w1/\w'=(w1.setCell ⟨tb,0,none⟩ (.int .i64 c)).setCell ⟨tb,1,none⟩ (.int .i64 p)
def WithinPost (w:World)(tb:Nat)(r:Option Nat)(ev:Ending)(w':World):Prop:=
 match r with
 |none=>ev=.returned (.bool false)/\Below w.heap.size w w'
 |some b=>ev=.returned (.bool true)/\∃w1,Below w.heap.size w w1/\w'=w1.setCell ⟨tb,0,none⟩ (.pointer (some ⟨b,0,none⟩))
theorem CodePost.up {w w1 w':World}{tb:Nat}{r:Option Int}{ev:Ending}(hb:Below w.heap.size w w1)(h:CodePost w1 tb r ev w'):CodePost w tb r ev w':=by
 cases r with
 |none=>exact⟨h.1,hb.trans (h.2.mono hb.size)⟩
 |some c=>
  obtain⟨h1,w2,h2,h3⟩:=h;exact⟨h1,w2,hb.trans (h2.mono hb.size),h3⟩
theorem FaultPost.up {w w1 w':World}{tb:Nat}{r:Option (Int × Int)}{ev:Ending}(hb:Below w.heap.size w w1)(h:FaultPost w1 tb r ev w'):FaultPost w tb r ev w':=by
 cases r with
 |none=>exact⟨h.1,hb.trans (h.2.mono hb.size)⟩
 |some c=>
  obtain⟨h1,w2,h2,h3⟩:=h;exact⟨h1,w2,hb.trans (h2.mono hb.size),h3⟩
theorem WithinPost.up {w w1 w':World}{tb:Nat}{r:Option Nat}{ev:Ending}(hb:Below w.heap.size w w1)(h:WithinPost w1 tb r ev w'):WithinPost w tb r ev w':=by
 cases r with
 |none=>exact⟨h.1,hb.trans (h.2.mono hb.size)⟩
 |some c=>
  obtain⟨h1,w2,h2,h3⟩:=h;exact⟨h1,w2,hb.trans (h2.mono hb.size),h3⟩
end Go.Proofs.YthhppmehhdlmnaaGreatDoor
namespace Go.Proofs.YthhppmehhdlmnaaGreatDoor
open Go.RowKit Go.Extern.Stop Go.Stop Go.Extern
end Go.Proofs.YthhppmehhdlmnaaGreatDoor
namespace Go.Proofs.YthhppmehhdlmnaaGreatDoor
open Go.RowKit
theorem zvh (c p:Int)(w:World) :
  Calls Tryz.prog 53 #[.int .i64 c,.int .i64 p] w fun ev w'=>ev=.returned (.iface 132 (.agg #[.int .i64 c,.int .i64 p]))/\w'=w:=by
 go_enter Tryz.func53,Tryz.ntmps53;go_wp2;go_ret;exact⟨rfl,rfl⟩
theorem zsv (r:ByteArray)(w:World) :
  Calls Tryz.prog 51 #[.string r,.nilIface] w fun ev w'=>ev=.returned .nilIface/\w'=w:=by
 go_enter Tryz.func51,Tryz.ntmps51;go_wp2;go_ret;exact⟨rfl,rfl⟩
end Go.Proofs.YthhppmehhdlmnaaGreatDoor
