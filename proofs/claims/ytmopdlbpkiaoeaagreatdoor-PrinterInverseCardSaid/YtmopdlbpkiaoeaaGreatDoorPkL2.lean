/- The law PrinterInverse, given the program's printer and Grammar. The law PrinterInverse, for every argument. -/
import Derived.Test.YtmopdlbpkiaoeaaGreatDoorPkGA
import Derived.Test.YtmopdlbpkiaoeaaGreatDoorPkPP
import Derived.Test.YtmopdlbpkiaoeaaGreatDoorPkPK
import Derived.Test.YtmopdlbpkiaoeaaGreatDoorPkGS
set_option maxRecDepth 100000
set_option maxHeartbeats 8000000
namespace Go.Proofs.YtmopdlbpkiaoeaaGreatDoor
section
open Go.RowKit
def Grm10 (s:ByteArray)(rs:List PR)(ns:List PN)(w:World):Prop:=∀W,Below w.heap.size w W->Calls Tryz.prog 15 #[.string s] W fun e w'=>∃ra rc na nc,e=.returned (.tuple #[.agg #[.slice ra rs.length rc,.slice na ns.length nc],.nilIface])/\RulesIn w' (.slice ra rs.length rc) rs/\NodesAt w' (.slice na ns.length nc) ns/\Below W.heap.size W w'
def Sme10:Prop:=∀(ru nu rv nv:Value) (rs:List PR) (ns:List PN) (W:World),RulesIn W ru rs->NodesAt W nu ns->RulesIn W rv rs->NodesAt W nv ns->Calls Tryz.prog 16 #[.agg #[ru,nu],.agg #[rv,nv]] W fun e w'=>e=.returned (.bool true)/\Below W.heap.size W w'
theorem yaey (rv nv:Value)(w:World)(hA:Awk10 w)(hS:Sml10 (.agg #[rv,nv]) false w) :
  Calls Tryz.prog 4 #[.agg #[rv,nv]] w fun e w'=>e=.returned (.bool true)/\Below w.heap.size w w':=by
 unfold Awk10 at hA;unfold Sml10 at hS;have HA:=Lib.hid hA;have HS:=Lib.hid hS;clear hA hS;go_enter Tryz.func4,Tryz.ntmps4
 go_wp2_with (first
  |(go_at_call 8;(with_reducible refine(HA.out _ (zaa w _)).mono ?_);rintro e w2 ⟨rfl,hb⟩;have HW:=Lib.hid ((zaa w _).trans (hb.mono (zaa w _).size));have b0:=(bcell hb).1 w.heap.size 0 (by simp);have b1:=(bcell hb).1 w.heap.size 1 (by simp);simp at b0 b1;clear hb)
  |(go_at_call 9;(with_reducible refine(HS.out _ HW.out).mono ?_);rintro e w3 ⟨rfl,hb⟩;replace HW:=Lib.hid (HW.out.trans (hb.mono HW.out.size));clear hb b0 b1)
  |(go_at_call 8;(with_reducible refine(HA.out _ HW.out).mono ?_);rintro e w4 ⟨rfl,hb⟩;replace HW:=Lib.hid (HW.out.trans (hb.mono HW.out.size));clear hb))
 go_ret;exact⟨rfl,HW.out⟩
theorem yaic (hSm:Sme10)(ra na:Option Addr)(rc nc:Nat)(rs:List PR)(ns:List PN)(w:World)(hSg:SgnAt w)(hA:Awk10 w)(hf:fewB rs ns=true)(hk:chkL rs ns=.ok)(hws:∀n,n ∈ ns->z87 n)(hS:Sml10 (.agg #[.slice ra rs.length rc,.slice na ns.length nc]) true w)(hG:Grm10 (strOf (z88 rs ns)) rs ns w)(hR:RulesIn w (.slice ra rs.length rc) rs)(hN:NodesAt w (.slice na ns.length nc) ns) :
  Calls Tryz.prog 4 #[.agg #[.slice ra rs.length rc,.slice na ns.length nc]] w fun e w'=>e=.returned (.bool true)/\Below w.heap.size w w':=by
 unfold Awk10 at hA;unfold Sml10 at hS;unfold Sme10 at hSm;unfold Grm10 at hG;have HA:=Lib.hid hA;have HS:=Lib.hid hS;have HSM:=Lib.hid hSm;obtain⟨hnm,-,hrl,hnl⟩:=z9r hf;have hlp:=yaas hk hnm hrl hnl;have HPP:=Lib.hid fun W (hW:Below w.heap.size w W) hN hR=>z90 rs ns ra na rc nc W (hSg.kept hW (Nat.le_refl _)) hk hws (by omega) hN hR
 obtain⟨SP,hSP⟩:∃SP,strOf (z88 rs ns)=SP:=⟨_,rfl⟩;rw[hSP] at HPP hG;have HG:=Lib.hid hG;have HR:=Lib.hid hR;have HN:=Lib.hid hN;clear hA hS hSg hSm hG hf hk hws hnm hrl hnl hlp hSP hR hN;go_enter Tryz.func4,Tryz.ntmps4
 go_wp2_with (first
  |(go_at_call 8;(with_reducible refine(HA.out _ (zaa w _)).mono ?_);rintro e w2 ⟨rfl,hb⟩;have HW:=Lib.hid ((zaa w _).trans (hb.mono (zaa w _).size));have b0:=(bcell hb).1 w.heap.size 0 (by simp);have b1:=(bcell hb).1 w.heap.size 1 (by simp);simp at b0 b1;clear hb)
  |(go_at_call 9;(with_reducible refine(HS.out _ HW.out).mono ?_);rintro e w3 ⟨rfl,hb⟩;replace HW:=Lib.hid (HW.out.trans (hb.mono HW.out.size));have d0:=(bcell hb).1 _ 0 (zai b0);have d1:=(bcell hb).1 _ 1 (zai b1);rw[b0] at d0;rw[b1] at d1;clear hb b0 b1)
  |(go_at_call 10;(with_reducible refine(HPP.out _ HW.out (HN.out.kept HW.out (Nat.le_refl _)) (HR.out.kept HW.out (Nat.le_refl _))).mono ?_);rintro e w4 ⟨rfl,hb⟩;replace HW:=Lib.hid (HW.out.trans (hb.mono HW.out.size));have e0:=(bcell hb).1 _ 0 (zai d0);have e1:=(bcell hb).1 _ 1 (zai d1);rw[d0] at e0;rw[d1] at e1;clear hb d0 d1)
  |(go_at_call 15;(with_reducible refine(HG.out _ HW.out).mono ?_);rintro e w5 ⟨ra2,rc2,na2,nc2,rfl,hR,hN,hb⟩;have hn:=zaa w5 (.cells #[.slice ra2 rs.length rc2,.slice na2 ns.length nc2] 25);have hbn:=hb.trans (hn.mono hb.size);replace HW:=Lib.hid (HW.out.trans (hbn.mono HW.out.size));have HR2:=Lib.hid (hR.kept hn (Nat.le_refl _));have HN2:=Lib.hid (hN.kept hn (Nat.le_refl _));have d0:=(bcell hbn).1 _ 0 (zai e0);have d1:=(bcell hbn).1 _ 1 (zai e1);rw[e0] at d0;rw[e1] at d1;clear hb hn hbn hR hN e0 e1)
  |(go_at_call 16;(with_reducible refine(HSM.out _ _ _ _ _ _ _ HR2.out HN2.out (HR.out.kept HW.out (Nat.le_refl _)) (HN.out.kept HW.out (Nat.le_refl _))).mono ?_);rintro e w6 ⟨rfl,hb⟩;replace HW:=Lib.hid (HW.out.trans (hb.mono HW.out.size));clear hb))
 go_ret;exact⟨rfl,HW.out⟩
end
section
open Go.RowKit
theorem sme10:Sme10:=fun ru nu rv nv rs ns W h1 h2 h3 h4=>by
 have h:=zom ru nu rv nv rs rs ns ns W h1 h2 h3 h4;rw[decide_eq_true (And.intro rfl rfl)] at h;exact h
theorem yadg (rv nv:Value)(rs:List PR)(ns:List PN)(w:World)(hl:SignsAt w)(hS:SgnAt w)(hR:RulesIn w rv rs)(hN:NodesAt w nv ns)(hw:∀n,n ∈ ns->z87 n) :
  Calls Tryz.prog 4 #[.agg #[rv,nv]] w fun e w'=>e=.returned (.bool true)/\Below w.heap.size w w':=by
 cases h:(fewB rs ns&&okB (chkL rs ns)) with
 |false=>exact yaey rv nv w (awk10 hl hS) (sml10 hR hN h)
 |true=>
  obtain⟨hf,ho⟩:=Bool.and_eq_true_iff.1 h;obtain⟨-,ra,rc,rfl,-⟩:=id hR;obtain⟨-,na,nc,rfl,-⟩:=id hN;have hk:=yah0 ho;obtain⟨hnm,-,hrl,hnl⟩:=z9r hf;have hlp:=yaas hk hnm hrl hnl;exact yaic sme10 ra na rc nc rs ns w hS (awk10 hl hS) hf hk hw (sml10 hR hN h) (fun W hb=>(yaj5 hk hw (by omega) W (hl.kept hb (Nat.le_refl _))).mono fun e w' h=>h.flat hk) hR hN
end
end Go.Proofs.YtmopdlbpkiaoeaaGreatDoor
