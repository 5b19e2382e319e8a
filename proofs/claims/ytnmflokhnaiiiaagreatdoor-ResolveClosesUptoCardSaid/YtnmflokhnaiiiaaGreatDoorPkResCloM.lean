/- Mathematics of the law ResolveCloses: whether a name stands twice; that no name is missing exactly if all are found. No walk. -/
import Derived.Test.YtnmflokhnaiiiaaGreatDoorPkRA
import Derived.Test.YtnmflokhnaiiiaaGreatDoorPkRH
namespace Go.Proofs.YtnmflokhnaiiiaaGreatDoor
section
theorem zot {p:Nat->Bool}:∀(m i:Nat),(fbad p (m+1) i).isSome=((fbad p m i).isSome || p (i+m))
 |0,i=>by
  cases hp:p i with
  |true=>rw[zbn hp];rfl
  |false=>rw[zbz hp];rfl
 |m+1,i=>by
  cases hp:p i with
  |true=>rw[zbn hp,zbn hp];rfl
  |false=>rw[zbz hp,zbz (m:=m) hp,zot m (i+1),show i+1+m=i+(m+1) by omega]
def twB (l:List ByteArray)(k:Nat):Bool:=(fbad (dupB l) k 0).isSome
theorem z1o (l:List ByteArray)(k:Nat):twB l (k+1)=(twB l k || dupB l k):=by
 unfold twB;rw[zot,Nat.zero_add]
theorem z5x {rs:List (List Nat × Nat × Int)}:twB (nmR rs) rs.length=(dupO rs).isSome:=by
 unfold twB dupO;cases h:fbad (dupB (nmR rs)) rs.length 0 with
 |none=>rfl
 |some k=>
  obtain⟨-,hk,-⟩:=zfu _ _ _ h;rw[Option.bind_some,List.getElem?_eq_getElem (by omega)];rfl
theorem zju {l:List ByteArray}{f:MF}:(undO l f).isSome=(fbad (undB l (nmC f)) f.calls.length 0).isSome:=by
 unfold undO;cases h:fbad (undB l (nmC f)) f.calls.length 0 with
 |none=>rfl
 |some k=>
  obtain⟨-,hk,-⟩:=zfu _ _ _ h;rw[Option.bind_some,List.getElem?_eq_getElem (by omega)];rfl
theorem zyj {l:List ByteArray}{f:MF}{x:List Nat × Nat}(h:undO l f=some x):(missL (nmC f) l f.calls.length).length≠0:=by
 have h1:=zju (l:=l) (f:=f);rw[h] at h1;cases hf:fbad (undB l (nmC f)) f.calls.length 0 with
 |none=>rw[hf] at h1;cases h1
 |some k=>
  obtain⟨-,hk,hp⟩:=zfu _ _ _ hf;obtain⟨y,hy⟩:∃y,(nmC f)[k]?=some y:=⟨_,List.getElem?_eq_getElem (by rw[zcv];omega)⟩;rw[zjm hy] at hp;have h2:=zg3 (n:=nmC f) (o:=l) (nmC f).length y (Nat.le_refl _);rw[List.take_length,hp,Bool.and_true] at h2;obtain⟨j,hj,-⟩:=zgu hy;rw[hj,zcv] at h2;intro e;rw[List.length_eq_zero_iff.1 e] at h2;cases h2
theorem zyk {l:List ByteArray}{f:MF}(h:undO l f=none):(missL (nmC f) l f.calls.length).length=0:=by
 have h1:=zju (l:=l) (f:=f);rw[h] at h1;cases hf:fbad (undB l (nmC f)) f.calls.length 0 with
 |some k=>rw[hf] at h1;cases h1
 |none=>
  cases hm:missL (nmC f) l f.calls.length with
  |nil=>rfl
  |cons y t=>
   have h2:=zg3 (n:=nmC f) (o:=l) (nmC f).length y (Nat.le_refl _);rw[zcv,hm,zdx rfl,<-zcv,List.take_length] at h2;cases h3:fndL (nmC f) y with
   |none=>rw[h3] at h2;cases h2
   |some j=>
    rw[h3] at h2;have h4:=(zfc h3).1;have h5:=zdp _ _ hf j (Nat.zero_le _) (by have:=zqb h3;rw[zcv] at this;omega);rw[zjm h4] at h5;rw[h5] at h2;cases h2
theorem zyl {rs:List (List Nat × Nat × Int)}{j:Nat}{y:ByteArray}(h:(nmR rs)[j]?=some y):∃r,(zam rs)[j]?=some r/\r.name=y:=by
 unfold nmR at h;rw[List.getElem?_map] at h;obtain⟨r,hr,e⟩:=Option.map_eq_some_iff.1 h;exact⟨⟨strOf r.1,r.2.2⟩,by unfold zam;rw[List.getElem?_map,hr];rfl,e⟩
theorem zt3 {l:List ByteArray}{f:MF}(h:undO l f=none){c:Nat}{x:List Nat × Nat}(hx:f.calls[c]?=some x):∃j,fndL l (strOf x.1)=some j/\l[j]?=some (strOf x.1):=by
 have h1:=zju (l:=l) (f:=f);rw[h] at h1;have hc:=(List.getElem?_eq_some_iff.1 hx).1;have h2:=zdp (p:=undB l (nmC f)) f.calls.length 0 (by
  cases hf:fbad (undB l (nmC f)) f.calls.length 0 with
  |none=>rfl
  |some k=>rw[hf] at h1;cases h1) c (Nat.zero_le _) (by omega)
 rw[zjm (zgx hx)] at h2;cases h3:fndL l (strOf x.1) with
 |none=>rw[h3] at h2;cases h2
 |some j=>exact⟨j,rfl,(zfc h3).1⟩
end
end Go.Proofs.YtnmflokhnaiiiaaGreatDoor
