/- A file as its three rows. -/
import Derived.Test.YthhppmehhdlmnaaGreatDoorPzD
import Derived.Test.YthhppmehhdlmnaaGreatDoorPzC
namespace Go.Proofs.YthhppmehhdlmnaaGreatDoor
section
open Go.RowKit
def nameC (c:List Nat × Nat):List Value:=[.string (strOf c.1),.int .i64 (c.2:Int)]
def zd7 (l:List (List Nat × Nat)):List Value:=l.flatMap nameC
def defC (r:List Nat × Nat × Int):List Value:=[.string (strOf r.1),.int .i64 (r.2.1:Int),.int .i64 r.2.2]
def defsC (l:List (List Nat × Nat × Int)):List Value:=l.flatMap defC
def FileIn (W:World)(rv nv cv:Value)(rs:List (List Nat × Nat × Int))(f:MF):Prop:=(rs.length<=maxLen/\f.calls.length<=maxLen)/\CellsAt W rv rs.length (defsC rs)/\NodesAt W nv f.nodes/\CellsAt W cv f.calls.length (zd7 f.calls)
theorem FileIn.below {W W':World}{rv nv cv:Value}{rs:List (List Nat × Nat × Int)}{f:MF}(h:FileIn W rv nv cv rs f)(hb:Below W.heap.size W W'):FileIn W' rv nv cv rs f:=⟨h.1,h.2.1.kept hb (Nat.le_refl _),h.2.2.1.kept hb (Nat.le_refl _),h.2.2.2.kept hb (Nat.le_refl _)⟩
theorem zim {w wr:World}{b off k:Nat}{rs:List (List Nat × Nat × Int)}{x:List Nat × Nat × Int}(h:∀j u,(defsC rs)[j]?=some u->w.cell? ⟨b,off+j,none⟩=some u)(hx:rs[k]?=some x)(hb:Below w.heap.size w wr) :
  wr.cell? ⟨b,off+k*3,none⟩=some (.string (strOf x.1))/\wr.cell? ⟨b,off+k*3+1,none⟩=some (.int .i64 (x.2.1:Int))/\wr.cell? ⟨b,off+k*3+2,none⟩=some (.int .i64 x.2.2)/\b<wr.heap.size:=by
 have c:∀j,j<3->∀u,(defC x)[j]?=some u->wr.cell? ⟨b,off+k*3+j,none⟩=some u:=fun j hj u hu=>by
  have e:=zcx defC 3 (fun _=>rfl) rs k x j hx hj;rw[hu] at e;have:=h _ u e;rw[(bcell hb).1 _ _ (zac this),Nat.add_assoc];exact this
 exact⟨c 0 (by decide) _ rfl,c 1 (by decide) _ rfl,c 2 (by decide) _ rfl,zac (c 0 (by decide) _ rfl)⟩
theorem zj7 {w wr:World}{b off k:Nat}{l:List (List Nat × Nat)}{x:List Nat × Nat}(h:∀j u,(zd7 l)[j]?=some u->w.cell? ⟨b,off+j,none⟩=some u)(hx:l[k]?=some x)(hb:Below w.heap.size w wr) :
  wr.cell? ⟨b,off+k*2,none⟩=some (.string (strOf x.1))/\wr.cell? ⟨b,off+k*2+1,none⟩=some (.int .i64 (x.2:Int))/\b<wr.heap.size:=by
 have c:∀j,j<2->∀u,(nameC x)[j]?=some u->wr.cell? ⟨b,off+k*2+j,none⟩=some u:=fun j hj u hu=>by
  have e:=zcx nameC 2 (fun _=>rfl) l k x j hx hj;rw[hu] at e;have:=h _ u e;rw[(bcell hb).1 _ _ (zac this),Nat.add_assoc];exact this
 exact⟨c 0 (by decide) _ rfl,c 1 (by decide) _ rfl,zac (c 0 (by decide) _ rfl)⟩
end
end Go.Proofs.YthhppmehhdlmnaaGreatDoor
