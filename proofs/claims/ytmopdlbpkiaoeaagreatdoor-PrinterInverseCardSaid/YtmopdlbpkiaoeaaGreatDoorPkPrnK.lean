/- The program's Canonical, given what its Grammar answers. -/
import Derived.Test.YtmopdlbpkiaoeaaGreatDoorPkPP
import Derived.Test.YtmopdlbpkiaoeaaGreatDoorPkRC
set_option maxRecDepth 100000
set_option maxHeartbeats 8000000
namespace Go.Proofs.YtmopdlbpkiaoeaaGreatDoor
section
open Go.RowKit
theorem GramOk.flat {rs:List PR}{ns:List PN}{w w':World}{e:Ending}(h:GramOk rs ns w e w')(hk:chkL rs ns=.ok):∃ra rc na nc,e=.returned (.tuple #[.agg #[.slice ra rs.length rc,.slice na ns.length nc],.nilIface])/\RulesIn w' (.slice ra rs.length rc) rs/\NodesAt w' (.slice na ns.length nc) ns/\Below w.heap.size w w':=by
 obtain⟨rv,nv,qs,rfl,hr,hn,hb⟩:=h;obtain⟨h1,h2,-,-,-,h6,-⟩:=z3k hk;have hx:=zuh h6;obtain⟨ra,rc,rfl⟩:=zag hr;obtain⟨na,nc,rfl⟩:=zag hn.2.1;refine⟨ra,rc,na,nc,rfl,RulesIn.of_own hr (by unfold maxLen;omega),hn.nodes (by unfold maxLen;omega) (fun n hm=>?_),hb⟩;obtain⟨i,hi⟩:=List.getElem?_of_mem hm;have hil:=(List.getElem?_eq_some_iff.1 hi).1;have h0:=zj5 ns i (hx i (by omega) (by omega));have hkd:=(kc_of hx hi).few h0.1;unfold maxLen;omega
theorem yad8 (s:ByteArray)(w:World){c:Int}(hG:Calls Tryz.prog 15 #[.string s] w (GErrC c w)) :
  Calls Tryz.prog 21 #[.string s] w fun e w'=>∃er:Err,e=.returned (.tuple #[.string ⟨#[]⟩,er.val])/\er.In w'/\er.codeOf=some c/\Below w.heap.size w w':=by
 have HG:=Lib.hid hG;clear hG;go_enter Tryz.func21,Tryz.ntmps21
 go_wp2_with (go_at_call 15;(with_reducible refine HG.out.mono ?_);rintro e w1 ⟨er,⟨he,hE,hb⟩,hco⟩;obtain⟨ty,iv,hv⟩:=er.val_ne;rw[hv] at he;subst he;have hn:=zaa w1 (.cells #[.slice none 0 0,.slice none 0 0] 25);have HB:=Lib.hid (hb.trans (hn.mono hb.size));have HE:=Lib.hid (hE.kept hn (Nat.le_refl _));have HCO:=Lib.hid hco;have HV:=Lib.hid hv;clear hb hn hE hco hv)
 refine bodyPost_ret (v:=.tuple #[.string ⟨#[]⟩,.iface ty iv]) (by simp[results,Tryz.results21,go_sem]) rfl ?_;exact⟨er,by rw[HV.out],HE.out,HCO.out,HB.out⟩
theorem yabt (s:ByteArray)(w:World){rs:List PR}{ns:List PN}(hS:SgnAt w)(hk:chkL rs ns=.ok)(hw:∀n,n ∈ ns->z87 n)(hl:(z88 rs ns).length<=1000000)(hG:Calls Tryz.prog 15 #[.string s] w (GramOk rs ns w)) :
  Calls Tryz.prog 21 #[.string s] w fun e w'=>e=.returned (.tuple #[.string (strOf (z88 rs ns)),.nilIface])/\Below w.heap.size w w':=by
 have HG:=Lib.hid (hG.mono fun e w' h=>h.flat hk);have HP:=Lib.hid fun ra na rc nc W hW hN hR=>z90 rs ns ra na rc nc W (hS.kept (n:=w.heap.size) hW (Nat.le_refl _)) hk hw hl hN hR
 clear hG hk hw hl hS;go_enter Tryz.func21,Tryz.ntmps21
 go_wp2_with (first
  |(go_at_call 15;(with_reducible refine HG.out.mono ?_);rintro e w1 ⟨ra,rc,na,nc,rfl,hR,hN,hb⟩;have hn:=zaa w1 (.cells #[.slice ra rs.length rc,.slice na ns.length nc] 25);have HB:=Lib.hid (hb.trans (hn.mono hb.size));have HN1:=Lib.hid (hN.kept hn (Nat.le_refl _));have HR1:=Lib.hid (hR.kept hn (Nat.le_refl _));clear hb hn hR hN)
  |(go_at_call 10;(with_reducible refine(HP.out _ _ _ _ _ HB.out HN1.out HR1.out).mono ?_);rintro e w3 ⟨rfl,hb⟩;have HB3:=Lib.hid (HB.out.trans (hb.mono HB.out.size));clear hb))
 refine bodyPost_ret (v:=.tuple #[.string (strOf (z88 rs ns)),.nilIface]) (by simp[results,Tryz.results21,go_sem]) rfl ?_;exact⟨rfl,HB3.out⟩
end
end Go.Proofs.YtmopdlbpkiaoeaaGreatDoor
