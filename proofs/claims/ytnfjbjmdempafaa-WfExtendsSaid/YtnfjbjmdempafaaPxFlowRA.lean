/- The reference's Node at every node. -/
import Derived.Test.YtnfjbjmdempafaaPxFlowRS
import Derived.Test.YtnfjbjmdempafaaPxFlowRC
namespace Go.Proofs.Ytnfjbjmdempafaa
open Go.RowKit
theorem rnode_any (rv nv v : Value) (rs : List PR) (ns : List PN) (l : List Fc) (i : Nat) (n : PN) (w : World) (hR : RulesIn w rv rs) (hN : NodesAt w nv ns) (hF : FactsAt w v l) (hn : ns[i]? = some n) (hI : NodeIn rs l.length n) :
    Calls Try.prog 41 #[.agg #[rv, nv], .int .i64 (i : Int), v] w fun e w' => e = .returned (factV (nodeF rs n l)) ∧ Below w.heap.size w w' := by
  have h0 := hI.ok.lo
  have h9 := hI.ok.hi
  rcases (show n.op = 0 ∨ n.op = 1 ∨ n.op = 2 ∨ n.op = 3 ∨ n.op = 4 ∨ n.op = 5 ∨ n.op = 6 ∨ n.op = 7 ∨ n.op = 8 ∨ n.op = 9 by omega) with h | h | h | h | h | h | h | h | h | h
  · exact rnode_0 rv nv v rs ns l i n w hR hN hn h
  · exact rnode_1 rv nv v rs ns l i n w hR hN hn h
  · exact rnode_2 rv nv v rs ns l i n w hR hN hF hn hI h
  · exact rnode_3 rv nv v rs ns l i n w hR hN hF hn hI h
  · exact rnode_4 rv nv v rs ns l i n w hR hN hF hn hI h
  · exact rnode_5 rv nv v rs ns l i n w hR hN hF hn hI h
  · exact rnode_6 rv nv v rs ns l i n w hR hN hF hn hI h
  · exact rnode_7 rv nv v rs ns l i n w hR hN hF hn hI h
  · exact rnode_8 rv nv v rs ns l i n w hR hN hF hn hI h
  · exact rnode_9 rv nv v rs ns l i n w hR hN hF hn hI h
end Go.Proofs.Ytnfjbjmdempafaa
