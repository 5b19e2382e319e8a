/- The contracts of the reference's Letter, Name and skip. -/
import Derived.Test.YthhppmehhdlmnaaGreatDoorPzA
import Derived.Test.YthhppmehhdlmnaaGreatDoorPzB
set_option maxRecDepth 100000
set_option maxHeartbeats 1000000
namespace Go.Proofs.YthhppmehhdlmnaaGreatDoor
open Go.RowKit
theorem zth (c:Int)(b:Bool)(w:World)(h0:0<=c) :
  Calls Tryz.prog 131 #[.int .u8 c,.bool b] w fun e w'=>e=.returned (.bool (letB c.toNat b))/\w'=w:=by
 by_cases hd:48<=c/\c<=57
 ·have hr:=Lib.hid (show letB c.toNat b=!b by unfold letB;rw[if_pos (by omega)])
  obtain⟨h1,h2⟩:=hd;go_enter Tryz.func131,Tryz.ntmps131;go_wp2;go_ret;exact⟨zaf hr.out.symm,rfl⟩
 ·have hl:letB c.toNat b=decide (c.toNat=95∨(97<=c.toNat/\c.toNat<=122)∨(65<=c.toNat/\c.toNat<=90)):=by unfold letB;rw[if_neg (by omega)]
  by_cases h95:c=95
  ·subst h95
   have hr:=Lib.hid (hl.trans (by decide):letB (95:Int).toNat b=true);clear hl hd;go_enter Tryz.func131,Tryz.ntmps131;go_wp2;go_ret;exact⟨zaf hr.out.symm,rfl⟩
  ·have hb:=zaj h95
   have HL:=Lib.hid hl;clear hl;by_cases h97:97<=c
   ·have n1:¬c<=57:=by omega
    have n2:48<=c:=by omega
    have n3:65<=c:=by omega
    have n4:¬c<=90:=by omega
    by_cases h122:c<=122
    ·have hr:=Lib.hid (HL.out.trans (decide_eq_true (by omega)):letB c.toNat b=true)
     clear hd;go_enter Tryz.func131,Tryz.ntmps131;go_wp2;go_ret;exact⟨zaf hr.out.symm,rfl⟩
    ·have hr:=Lib.hid (HL.out.trans (decide_eq_false (by omega)):letB c.toNat b=false)
     clear hd;go_enter Tryz.func131,Tryz.ntmps131;go_wp2;go_ret;exact⟨zaf hr.out.symm,rfl⟩
   ·by_cases h65:65<=c
    ·have n1:¬c<=57:=by omega
     have n2:48<=c:=by omega
     by_cases h90:c<=90
     ·have hr:=Lib.hid (HL.out.trans (decide_eq_true (by omega)):letB c.toNat b=true)
      clear hd;go_enter Tryz.func131,Tryz.ntmps131;go_wp2;go_ret;exact⟨zaf hr.out.symm,rfl⟩
     ·have hr:=Lib.hid (HL.out.trans (decide_eq_false (by omega)):letB c.toNat b=false)
      clear hd;go_enter Tryz.func131,Tryz.ntmps131;go_wp2;go_ret;exact⟨zaf hr.out.symm,rfl⟩
    ·have hr:=Lib.hid (HL.out.trans (decide_eq_false (by omega)):letB c.toNat b=false)
     by_cases h48:48<=c
     ·have n1:¬c<=57:=by omega
      clear hd;go_enter Tryz.func131,Tryz.ntmps131;go_wp2;go_ret;exact⟨zaf hr.out.symm,rfl⟩
     ·clear hd
      go_enter Tryz.func131,Tryz.ntmps131;go_wp2;go_ret;exact⟨zaf hr.out.symm,rfl⟩
theorem znh (c:Nat)(b r:Bool)(w:World)(h:letB c b=r) :
  Calls Tryz.prog 131 #[.int .u8 (c:Int),.bool b] w fun e w'=>e=.returned (.bool r)/\w'=w:=by
 subst h;exact zth (c:Int) b w (by omega)
def SkipIs (o:Nat × Bool)(p:Nat)(w:World)(e:Ending)(w':World):Prop:=e=.returned (.tuple #[.int .i64 ((p+o.1:Nat):Int),.bool o.2])/\w'=w
theorem SkipIs.mk {o:Nat × Bool}{p:Nat}{w:World}{x:Int}{b:Bool}(h1:x=((p+o.1:Nat):Int))(h2:b=o.2):SkipIs o p w (.returned (.tuple #[.int .i64 x,.bool b])) w:=by
 subst h1 h2;exact⟨rfl,rfl⟩
theorem zxf (s:ByteArray)(w:World)(hs:s.size<=2000000) :
  Calls Tryz.prog 99 #[.string s] w fun e w'=>e=.returned (.bool (nameB (bts s)))/\w'=w:=by
 by_cases h0:0<s.size
 ·have hE:=zja h0
  have hne:nameB (bts s)=allF true (bts s):=by unfold nameB;rw[zp9 s h0];rfl
  have HN:=Lib.hid hne;clear hne;go_enter Tryz.func99,Tryz.ntmps99;go_wp2
  go_loop [3] (fun c=>∃k:Nat,k<=s.size/\c=.int .i64 k/\nameB (bts s)=allF ((k:Int) == 0) ((bts s).drop k)) (fun c=>s.size-(intOf c).toNat)
  case atStart=>exact⟨0,Nat.zero_le _,rfl,HN.out⟩
  case round=>
   obtain⟨k,hk,rfl,hr⟩:=hrel;have HR:=Lib.hid hr;clear hr;by_cases hlt:k<s.size
   ·have hd:=zbd s k hlt
    cases hl:letB s[k].toNat ((k:Int) == 0)
    ·have hq:=Lib.hid (show nameB (bts s)=false by rw[HR.out,hd,zud hl])
     have HL:=Lib.hid hl;clear hl hd
     go_wp2_with (go_at_call 131;refine(znh _ _ false _ HL.out).mono ?_;rintro e w' ⟨rfl,hw⟩;obtain rfl:=hw.symm;clear hw)
     go_ret;exact⟨zaf hq.out.symm,rfl⟩
    ·have hq:nameB (bts s)=allF false ((bts s).drop (k+1)):=by rw[HR.out,hd,zqa hl]
     have hz:(((k+1:Nat):Int) == 0)=false:=by rw[beq_eq_false_iff_ne];omega
     have HQ:=Lib.hid (show nameB (bts s)=allF (((k+1:Nat):Int) == 0) ((bts s).drop (k+1)) by rw[hz];exact hq);have HL:=Lib.hid hl;clear hl hd hq hz
     go_wp2_with (go_at_call 131;refine(znh _ _ true _ HL.out).mono ?_;rintro e w' ⟨rfl,hw⟩;obtain rfl:=hw.symm;clear hw)
     go_round
     case rel=>exact⟨k+1,by omega,by go_num,HQ.out⟩
     case measure=>simp[intOf];omega
   ·have hq:=Lib.hid (show nameB (bts s)=true by rw[HR.out,List.drop_eq_nil_of_le (by rw[zag];omega)];rfl)
    go_wp2;go_ret;exact⟨zaf hq.out.symm,rfl⟩
 ·have hE:=zhx h0
  have hz:s.size=0:=by omega
  have hne:=Lib.hid (show nameB (bts s)=false by rw[List.eq_nil_of_length_eq_zero (l:=bts s) (by rw[zag];exact hz)];rfl);have h1:(s.size:Int)=0:=by omega
  clear h0 hz;go_enter Tryz.func99,Tryz.ntmps99;go_wp2;refine wp_loop_rounds 1 ?_;rw[rounds_succ];go_wp2;go_ret;exact⟨zaf hne.out.symm,rfl⟩
end Go.Proofs.YthhppmehhdlmnaaGreatDoor
