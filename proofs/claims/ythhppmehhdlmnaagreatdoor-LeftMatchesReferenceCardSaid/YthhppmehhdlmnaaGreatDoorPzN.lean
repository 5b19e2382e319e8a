/- The parser: join and kid over the state beside a row of kids. The parser: methods at any state, enclosed, primary. The parser: primary. -/
import Derived.Test.YthhppmehhdlmnaaGreatDoorPzM
set_option maxRecDepth 100000
set_option maxHeartbeats 2000000
namespace Go.Proofs.YthhppmehhdlmnaaGreatDoor
section
open Go.RowKit
section
variable {C:PC} {N N':Nat} {rs:List (List Nat × Nat × Int)} {d:Nat} {qs tq:List Value} {w W w':World} {e:Ending} {kv:Value}
theorem zp0 {ks:List Int}{ka:Option Addr}{kc:Nat}{ts:List Tok}{g:MF}(hK:KSt C N rs d qs w (.slice ka ks.length kc) (fun _=>ks) (.ok ts g) W)(hg:g.nodes.length<=100000000)(op:Int) :
  Calls Tryz.prog 173 #[.pointer (some ⟨C.B,0,none⟩),.int .i64 op,.slice ka ks.length kc] W (DoIs C N rs d qs w (.ok ts (joinN g op ks))):=by
 obtain⟨hKq,h0,hrow,tq,hP,ht⟩:=hK
 match ks,h0,hrow,ht with
 | [],h0,hrow,ht=>
  refine zny C.B op ka kc W _ ((zkd C rs ts g d (qs++tq) W (mkN 0 []) none 0 hP (World.ownsRow_nil _ _ _ _) (by omega)).mono fun e w' h=>⟨h.1,hKq.trans h.2.1,tq++[.slice none 0 0],?_,fun q hq b hb=>?_⟩)
  ·rw[<-List.append_assoc];exact h.2.2
  ·rcases List.mem_append.1 hq with hq|hq
   ·exact(ht q hq b hb).1
   ·obtain rfl:=List.mem_singleton.1 hq
    cases hb
 | [x],h0,hrow,ht=>
  refine(join_one C.B op ka kc W).mono ?_;rintro e w' ⟨rfl,rfl⟩;exact⟨rfl,hKq,tq,hP,fun q hq b hb=>(ht q hq b hb).1⟩
 |x::y::r,h0,hrow,ht=>
  refine znz C.B _ op ka kc W _ (by simp) ((zkd C rs ts g d (qs++tq) W (mkN op (x::y::r)) ka kc hP hrow (by omega)).mono fun e w' h=>⟨h.1,hKq.trans h.2.1,tq++[.slice ka (x::y::r).length kc],?_,fun q hq b hb=>?_⟩)
  ·rw[<-List.append_assoc];exact h.2.2
  ·rcases List.mem_append.1 hq with hq|hq
   ·exact(ht q hq b hb).1
   ·obtain rfl:=List.mem_singleton.1 hq
    exact h0 b hb
theorem zl9 {ks:MF->List Int}{a:List Tok}{dp:Bool}(hK:KSt C N rs d qs w kv ks (.bad a dp) W)(hN:N<=900000000)(op:Int) :
  Calls Tryz.prog 173 #[.pointer (some ⟨C.B,0,none⟩),.int .i64 op,kv] W (DoIs C (N+1) rs d qs w (.bad a dp)):=by
 obtain⟨hKq,h0,⟨k,xs,hk,hrow⟩,hP⟩:=hK;obtain⟨ka,kc,rfl⟩:=zad hrow
 match k,hk,hrow with
 |0,hk,hrow=>exact zny C.B op ka kc W _ ((zpw C _ N d W 0 0 0 0 0 0 none 0 0 hP (by omega)).mono fun e w' h=>⟨h.1,hKq.trans h.2.1,h.2.2⟩)
 |1,hk,hrow=>
  refine(join_one C.B op ka kc W).mono ?_;rintro e w' ⟨rfl,rfl⟩;exact⟨rfl,hKq,hP.mono (Nat.le_succ _)⟩
 |k+2,hk,hrow=>exact znz C.B _ op ka kc W _ (by omega) ((zpw C _ N d W op 0 0 0 0 0 ka (k+2) kc hP (by omega)).mono fun e w' h=>⟨h.1,hKq.trans h.2.1,h.2.2⟩)
theorem zd4 {ks:MF->List Int}{a:List Tok}{dp:Bool}{ka:Option Addr}{k kc:Nat}{xs:List Value}(hK:Kq C.w0.heap.size C.B w W)(h0:∀b,(Value.slice ka k kc).ownBlock=some b->w.heap.size<=b)(hrow:W.ownsRow C.w0.heap.size 3 1 (.slice ka k kc) k xs)(hPW:PBad C (erV a dp) N d W)(hkb:k<=100000000)
  (hI:KidIs C.B C.w0.heap.size k (.slice ka k kc) xs (fun w1=>Kq C.w0.heap.size C.B W w1/\PBad C (erV a dp) N' d w1) e w') :
  ∃kv',e=.returned kv'/\KSt C N' rs d qs w kv' ks (.bad a dp) w':=by
 obtain⟨w1,na,m,nc,a',c',o2,⟨hK1,hS⟩,hc11,rfl,hown,hgr,hat⟩:=hI;obtain⟨cs,hB⟩:=hPW.isB;have hrow1:=hK1.own hrow (by decide) (own_ne hrow hB (by decide));have hb1:=zab w1 o2;have hrow2:=zaa hrow1 hb1;have hr:∀g',(Value.slice ka k kc).ownBlock=some g'->C.w0.heap.size<=g'/\∃c fz,(w1.alloc o2).heap[g']?=some (.cells c 3 fz):=fun g' e=>⟨(hrow2.lt g' e).1,Lib.ownsRow_kind hrow2 g' e⟩
 have hKw:Kq C.w0.heap.size C.B w w':=((hK.trans hK1).trans (Kq.of_below hb1)).late hgr h0;refine⟨_,rfl,hKw,fun b hb=>?_,⟨_,_,by omega,hown⟩,(PBad.below hS hb1).row hgr hr⟩;rcases hat with h|h
 ·rw[h] at hb;exact h0 b hb
 ·rw[h] at hb
  cases hb;exact Nat.le_trans (Nat.le_trans hK.size hK1.size) hb1.size
end
theorem zkh {C:PC}{N N' c:Nat}{rs:List (List Nat × Nat × Int)}{d:Nat}{qs:List Value}{w W:World}{kv:Value}{a:List Tok}{g:MF}{ks:MF->List Int}{F:List Tok->MF->PO}(hM:MOk C 172 F c N N' d)(hN:N'<=900000000)(hF:Fit c N rs a g)(hlt:∀q,q ∈ qs->∀b,q.ownBlock=some b->b<w.heap.size)
  (hK:KSt C N rs d qs w kv ks (.ok a g) W) (hkb:(ks g).length<=100000000) (hgn:∀a' g',F a g=.ok a' g'->g'.nodes.length<=900000000) :
  Calls Tryz.prog 171 #[.pointer (some ⟨C.B,0,none⟩),kv,.func (.func 172) #[] #[]] W fun e w'=>∃kv',e=.returned kv'/\KSt C N' rs d qs w kv' (fun g'=>ks g++[lastI g']) (F a g) w':=by
 obtain⟨hKq,h0,hrow,tq,hP,ht⟩:=hK;obtain⟨ka,kc,rfl⟩:=zad hrow;refine(zyi C.B C.w0.heap.size _ ka kc _ W (St C N' rs d (qs++tq) W (F a g)) (hM rs (qs++tq) a g W hP hF) (fun w1 h=>⟨h.last hN hgn,?_,h.base⟩) (by omega)).mono fun e w' h=>zeq hlt hKq h0 hrow hP ht rfl hkb rfl h
 obtain⟨cs,hB⟩:=hP.isB;exact h.1.own hrow (by decide) (own_ne hrow hB (by decide))
theorem ziu {C:PC}{N m:Nat}{rs:List (List Nat × Nat × Int)}{d:Nat}{qs:List Value}{w W:World}{kv:Value}{a:List Tok}{dp:Bool}{ks ks':MF->List Int}(hM:MBad C 172 d m)(hN:N<=800000000/\m<=1000)
  (hK:KSt C N rs d qs w kv ks (.bad a dp) W) (hkb:∀a' n c',kv=.slice a' n c'->n<=100000000) :
  Calls Tryz.prog 171 #[.pointer (some ⟨C.B,0,none⟩),kv,.func (.func 172) #[] #[]] W fun e w'=>∃kv',e=.returned kv'/\KSt C (N+m) rs d qs w kv' ks' (.bad a dp) w':=by
 obtain⟨hKq,h0,⟨k,xs,hk,hrow⟩,hP⟩:=hK;obtain⟨ka,kc,rfl⟩:=zad hrow;have hkk:=hkb _ _ _ rfl;refine(zyi C.B C.w0.heap.size k ka kc xs W (fun w1=>Kq C.w0.heap.size C.B W w1/\PBad C (erV a dp) (N+m) d w1) (hM a dp N W (by omega) hP) (fun w1 h=>⟨?_,?_,h.2.1.1.size⟩) (by omega)).mono fun e w' h=>zd4 hKq h0 hrow hP hkk h
 ·obtain⟨na,m,nc,h1,h2⟩:=h.2.last
  exact⟨na,m,nc,h1,by omega⟩
 ·obtain⟨cs,hB⟩:=hP.isB
  exact h.1.own hrow (by decide) (own_ne hrow hB (by decide))
theorem ztu {C:PC}{N N' c:Nat}{rs:List (List Nat × Nat × Int)}{d:Nat}{qs:List Value}{w W:World}{kv:Value}{a:List Tok}{g:MF}{ks:MF->List Int}{F:List Tok->MF->PO}(hM:MOk C 184 F c N N' d)(hN:N'<=900000000)(hF:Fit c N rs a g)(hlt:∀q,q ∈ qs->∀b,q.ownBlock=some b->b<w.heap.size)
  (hK:KSt C N rs d qs w kv ks (.ok a g) W) (hkb:(ks g).length<=100000000) (hgn:∀a' g',F a g=.ok a' g'->g'.nodes.length<=900000000) :
  Calls Tryz.prog 171 #[.pointer (some ⟨C.B,0,none⟩),kv,.func (.func 184) #[] #[]] W fun e w'=>∃kv',e=.returned kv'/\KSt C N' rs d qs w kv' (fun g'=>ks g++[lastI g']) (F a g) w':=by
 obtain⟨hKq,h0,hrow,tq,hP,ht⟩:=hK;obtain⟨ka,kc,rfl⟩:=zad hrow;refine(z65 C.B C.w0.heap.size _ ka kc _ W (St C N' rs d (qs++tq) W (F a g)) (hM rs (qs++tq) a g W hP hF) (fun w1 h=>⟨h.last hN hgn,?_,h.base⟩) (by omega)).mono fun e w' h=>zeq hlt hKq h0 hrow hP ht rfl hkb rfl h
 obtain⟨cs,hB⟩:=hP.isB;exact h.1.own hrow (by decide) (own_ne hrow hB (by decide))
theorem ztv {C:PC}{N N' c:Nat}{rs:List (List Nat × Nat × Int)}{d:Nat}{qs:List Value}{w W:World}{kv:Value}{a:List Tok}{g:MF}{ks:MF->List Int}{F:List Tok->MF->PO}(hM:MOk C 194 F c N N' d)(hN:N'<=900000000)(hF:Fit c N rs a g)(hlt:∀q,q ∈ qs->∀b,q.ownBlock=some b->b<w.heap.size)
  (hK:KSt C N rs d qs w kv ks (.ok a g) W) (hkb:(ks g).length<=100000000) (hgn:∀a' g',F a g=.ok a' g'->g'.nodes.length<=900000000) :
  Calls Tryz.prog 171 #[.pointer (some ⟨C.B,0,none⟩),kv,.func (.func 194) #[] #[]] W fun e w'=>∃kv',e=.returned kv'/\KSt C N' rs d qs w kv' (fun g'=>ks g++[lastI g']) (F a g) w':=by
 obtain⟨hKq,h0,hrow,tq,hP,ht⟩:=hK;obtain⟨ka,kc,rfl⟩:=zad hrow;refine(zyj C.B C.w0.heap.size _ ka kc _ W (St C N' rs d (qs++tq) W (F a g)) (hM rs (qs++tq) a g W hP hF) (fun w1 h=>⟨h.last hN hgn,?_,h.base⟩) (by omega)).mono fun e w' h=>zeq hlt hKq h0 hrow hP ht rfl hkb rfl h
 obtain⟨cs,hB⟩:=hP.isB;exact h.1.own hrow (by decide) (own_ne hrow hB (by decide))
theorem zp1 {C:PC}{N m:Nat}{rs:List (List Nat × Nat × Int)}{d:Nat}{qs:List Value}{w W:World}{kv:Value}{a:List Tok}{dp:Bool}{ks ks':MF->List Int}(hM:MBad C 194 d m)(hN:N<=800000000/\m<=1000)
  (hK:KSt C N rs d qs w kv ks (.bad a dp) W) (hkb:∀a' n c',kv=.slice a' n c'->n<=100000000) :
  Calls Tryz.prog 171 #[.pointer (some ⟨C.B,0,none⟩),kv,.func (.func 194) #[] #[]] W fun e w'=>∃kv',e=.returned kv'/\KSt C (N+m) rs d qs w kv' ks' (.bad a dp) w':=by
 obtain⟨hKq,h0,⟨k,xs,hk,hrow⟩,hP⟩:=hK;obtain⟨ka,kc,rfl⟩:=zad hrow;have hkk:=hkb _ _ _ rfl;refine(zyj C.B C.w0.heap.size k ka kc xs W (fun w1=>Kq C.w0.heap.size C.B W w1/\PBad C (erV a dp) (N+m) d w1) (hM a dp N W (by omega) hP) (fun w1 h=>⟨?_,?_,h.2.1.1.size⟩) (by omega)).mono fun e w' h=>zd4 hKq h0 hrow hP hkk h
 ·obtain⟨na,m,nc,h1,h2⟩:=h.2.last
  exact⟨na,m,nc,h1,by omega⟩
 ·obtain⟨cs,hB⟩:=hP.isB
  exact h.1.own hrow (by decide) (own_ne hrow hB (by decide))
theorem zp2 {C:PC}{N N' c:Nat}{rs:List (List Nat × Nat × Int)}{d:Nat}{qs:List Value}{w W:World}{kv:Value}{a:List Tok}{g:MF}{ks:MF->List Int}{F:List Tok->MF->PO}(hM:MOk C 197 F c N N' d)(hN:N'<=900000000)(hF:Fit c N rs a g)(hlt:∀q,q ∈ qs->∀b,q.ownBlock=some b->b<w.heap.size)
  (hK:KSt C N rs d qs w kv ks (.ok a g) W) (hkb:(ks g).length<=100000000) (hgn:∀a' g',F a g=.ok a' g'->g'.nodes.length<=900000000) :
  Calls Tryz.prog 171 #[.pointer (some ⟨C.B,0,none⟩),kv,.func (.func 197) #[] #[]] W fun e w'=>∃kv',e=.returned kv'/\KSt C N' rs d qs w kv' (fun g'=>ks g++[lastI g']) (F a g) w':=by
 obtain⟨hKq,h0,hrow,tq,hP,ht⟩:=hK;obtain⟨ka,kc,rfl⟩:=zad hrow;refine(zr8 C.B C.w0.heap.size _ ka kc _ W (St C N' rs d (qs++tq) W (F a g)) (hM rs (qs++tq) a g W hP hF) (fun w1 h=>⟨h.last hN hgn,?_,h.base⟩) (by omega)).mono fun e w' h=>zeq hlt hKq h0 hrow hP ht rfl hkb rfl h
 obtain⟨cs,hB⟩:=hP.isB;exact h.1.own hrow (by decide) (own_ne hrow hB (by decide))
theorem zn0 {C:PC}{N m:Nat}{rs:List (List Nat × Nat × Int)}{d:Nat}{qs:List Value}{w W:World}{kv:Value}{a:List Tok}{dp:Bool}{ks ks':MF->List Int}(hM:MBad C 197 d m)(hN:N<=800000000/\m<=1000)
  (hK:KSt C N rs d qs w kv ks (.bad a dp) W) (hkb:∀a' n c',kv=.slice a' n c'->n<=100000000) :
  Calls Tryz.prog 171 #[.pointer (some ⟨C.B,0,none⟩),kv,.func (.func 197) #[] #[]] W fun e w'=>∃kv',e=.returned kv'/\KSt C (N+m) rs d qs w kv' ks' (.bad a dp) w':=by
 obtain⟨hKq,h0,⟨k,xs,hk,hrow⟩,hP⟩:=hK;obtain⟨ka,kc,rfl⟩:=zad hrow;have hkk:=hkb _ _ _ rfl;refine(zr8 C.B C.w0.heap.size k ka kc xs W (fun w1=>Kq C.w0.heap.size C.B W w1/\PBad C (erV a dp) (N+m) d w1) (hM a dp N W (by omega) hP) (fun w1 h=>⟨?_,?_,h.2.1.1.size⟩) (by omega)).mono fun e w' h=>zd4 hKq h0 hrow hP hkk h
 ·obtain⟨na,m,nc,h1,h2⟩:=h.2.last
  exact⟨na,m,nc,h1,by omega⟩
 ·obtain⟨cs,hB⟩:=hP.isB
  exact h.1.own hrow (by decide) (own_ne hrow hB (by decide))
end
section
open Go.RowKit
section
variable {C:PC} {N N':Nat} {rs:List (List Nat × Nat × Int)} {d d':Nat} {qs:List Value} {w W:World} {o:PO}
theorem MOk.lift {fn:FuncId}{F:List Tok->MF->PO}{c N1 m:Nat}(hM:MOk C fn F c N N' d)(hB:MBad C fn d m)(h:St C N1 rs d qs w o W)(hF:∀a g,o=.ok a g->Fit c N rs a g)(hN:N1+m<=N')(hN':N'<=800000000) :
  Calls Tryz.prog fn #[.pointer (some ⟨C.B,0,none⟩)] W (DoIs C N' rs d qs w (o.bind F)):=by
 obtain⟨k,h⟩:=h;cases o with
 |bad a dp=>exact(hB a dp N1 W (by omega) h).mono fun e w' h=>⟨h.1,k.trans h.2.1,h.2.2.mono hN⟩
 |ok a g=>
  obtain⟨tq,hP,ht⟩:=h;exact(hM rs (qs++tq) a g W hP (hF a g rfl)).mono fun e w' h=>⟨h.1,St.trans k ht h.2⟩
theorem z69 {C:PC}(hSg:SignsAt C.w0)(hs:C.s.size<=1050000)(k:Nat)(hk0:k≠0)(h:St C N rs d qs w o W)(hF:∀a g,o=.ok a g->Fit 0 N rs a g) :
  Calls Tryz.prog 150 #[.pointer (some ⟨C.B,0,none⟩),.int .i64 (k:Int)] W (DoIs C N rs d qs w (o.bind (expL k))):=by
 obtain⟨kq,h⟩:=h;cases o with
 |bad a dp=>exact(zyl C a dp N d W k hk0 h).mono fun e w' h=>⟨h.1,kq.trans h.2.1,h.2.2⟩
 |ok a g=>
  obtain⟨tq,hP,ht⟩:=h;obtain⟨f1,f2,f3,-⟩:=hF a g rfl;exact(z38 C hSg hs rs a g d (qs++tq) W N k hk0 hP (by omega) (by omega) f3).mono fun e w' h=>⟨h.1,St.trans kq ht h.2⟩
theorem zgx {C:PC}(hSg:SignsAt C.w0)(hs:C.s.size<=1050000){a:List Tok}{g:MF}(h:St C N rs d qs w (.ok a g) W)(hF:g.nodes.length<=N/\g.calls.length<=N/\rs.length<=N)(h0:kd a≠0) :
  Calls Tryz.prog 125 #[.pointer (some ⟨C.B,0,none⟩)] W (DoIs C N rs d qs w (acc false a.tail g)):=by
 obtain⟨kq,tq,hP,ht⟩:=h;exact(zgw C hSg hs rs a g d (qs++tq) W N hP h0 hF.1 hF.2.1 hF.2.2).mono fun e w' h=>⟨h.1,St.trans kq ht h.2⟩
theorem St.isB (h:St C N rs d qs w o W):∃cs,Bl W C.B 170 cs:=by
 obtain⟨k,h⟩:=h;cases o with
 |bad a dp=>exact PBad.isB h
 |ok a g=>obtain⟨t2,h1,h2⟩:=h;exact h1.isB
theorem St.depth (h:St C N rs d qs w o W):W.cell? ⟨C.B,14,none⟩=some (.int .i64 (d:Int)):=by
 obtain⟨k,h⟩:=h;cases o with
 |bad a dp=>
  obtain⟨hF,n,rv,nv,cv,m1,m2,m3,c1,c2,c3,hB,-⟩:=h;exact(seventeen hB).2.1.2.2.2.2.2.1
 |ok a g=>
  obtain⟨t2,⟨hF,n,t,rv,nv,cv,hc,hB,hR⟩,h2⟩:=h;exact(seventeen hB).2.1.2.2.2.2.2.1
theorem PFix.set (h:PFix C W)(o:Nat)(v:Value):PFix C (W.setCell ⟨C.B,o,none⟩ v):=h.kept (Kq.set _ _)
theorem PSt.deep {ts:List Tok}{f:MF}(h:PSt C rs ts f d qs W)(v:Int)(hv:v=(d':Int)):PSt C rs ts f d' qs (W.setCell ⟨C.B,14,none⟩ (.int .i64 v)):=by
 obtain⟨hF,n,t,rv,nv,cv,hc,hB,hR⟩:=h;subst hv;exact⟨hF.set _ _,n,t,rv,nv,cv,hc,put14 hB _,hR.only hB ((OnlyB.refl _ _).set _ _)⟩
theorem PBad.deep {er:Value}(h:PBad C er N d W)(v:Int)(hv:v=(d':Int)):PBad C er N d' (W.setCell ⟨C.B,14,none⟩ (.int .i64 v)):=by
 obtain⟨hF,n,rv,nv,cv,m1,m2,m3,c1,c2,c3,hB,h1,h2,h3,l⟩:=h;subst hv;have ho:=(OnlyB.refl C.B W).set 14 (.int .i64 (d':Int));exact⟨hF.set _ _,n,rv,nv,cv,m1,m2,m3,c1,c2,c3,put14 hB _,ho.row h1 (own_ne h1 hB (by decide)),ho.row h2 (own_ne h2 hB (by decide)),ho.row h3 (own_ne h3 hB (by decide)),l⟩
theorem St.deep (h:St C N rs d qs w o W)(v:Int)(hv:v=(d':Int)):St C N rs d' qs w o (W.setCell ⟨C.B,14,none⟩ (.int .i64 v)):=by
 obtain⟨k,h⟩:=h;refine⟨k.trans (Kq.set _ _),?_⟩;cases o with
 |bad a dp=>exact PBad.deep h v hv
 |ok a g=>obtain⟨t2,h1,h2⟩:=h;exact⟨t2,h1.deep v hv,h2⟩
end
theorem DoIs.out {C:PC}{N:Nat}{rs:List (List Nat × Nat × Int)}{d:Nat}{qs:List Value}{w w':World}{o:PO}{e:Ending}(h:DoIs C N rs d qs w o e w'):e=.returned (.tuple #[])/\St C N rs d qs w o w':=h
theorem z7a (C:PC)(hSg:SignsAt C.w0)(hs:C.s.size<=1050000){rec:List Tok->MF->PO}{N N' d:Nat}(hd:d<200)(hM:MOk C 162 rec 2 N N' (d+1))(hMB:MBad C 162 (d+1) 2)(hG:Grow 0 2 rec)(hN:N+2<=N')(hN':N'<=800000000/\N'<=100000000)
  (rs:List (List Nat × Nat × Int)) (qs:List Value) (ts:List Tok) (f:MF) (w0 w:World) (hP:St C N rs d qs w0 (.ok ts f) w) (hF:Fit 0 N rs ts f) (hk:kd ts=9) :
  Calls Tryz.prog 199 #[.pointer (some ⟨C.B,0,none⟩)] w (DoIs C N' rs d qs w0 ((acc false ts.tail f).bind fun a b=>(rec a b).bind fun c e=>closL false c e)):=by
 have hF2:Fit 2 N rs ts.tail f:=hF.tail (by omega) (by omega);have o1F:∀a g,acc false ts.tail f=.ok a g->Fit 2 N rs a g:=fun a g h=>by
  unfold acc at h;split at h
  ·cases h
  ·cases h;exact hF2
 have o2F:∀a g,(acc false ts.tail f).bind rec=.ok a g->Fit 0 N' rs a g:=fun a g h=>by
  cases ho:acc false ts.tail f with
  |bad a dp=>rw[ho] at h;cases h
  |ok b e=>
   rw[ho] at h;have hg:=hG b e;have h':rec b e=.ok a g:=h;rw[h'] at hg;obtain⟨x1,x2,x3,x4,x5⟩:=(o1F b e ho).next hg (c':=0) (by omega);exact⟨by omega,by omega,by omega,by omega,x5⟩
 have hO:((acc false ts.tail f).bind rec).bind (expL 10)=(acc false ts.tail f).bind fun a b=>(rec a b).bind fun c e=>closL false c e:=by
  cases acc false ts.tail f with
  |bad a dp=>rfl
  |ok a b=>rfl
 have HO:=Lib.hid hO;have HA:=Lib.hid fun(W:World) (h:St C N rs (d+1) qs w0 (.ok ts f) W)=>zgx hSg hs h ⟨by have:=hF.1;omega,by have:=hF.2.1;omega,hF.2.2.1⟩ (by omega)
 have HE:=Lib.hid fun(W:World) (h:St C N rs (d+1) qs w0 (acc false ts.tail f) W)=>hM.lift hMB h o1F hN hN'.1
 have HX:=Lib.hid fun(W:World) (h:St C N' rs d qs w0 ((acc false ts.tail f).bind rec) W)=>(show Calls Tryz.prog 150 #[.pointer (some ⟨C.B,0,none⟩),.int .i64 10] W _ from z69 hSg hs 10 (by decide) h o2F)
 have c14:=hP.depth;obtain⟨cs,hB⟩:=hP.isB;have bl:=hB.lt;have bf:=hB.free;have HP:=Lib.hid hP;have e1:((d:Int) == 200)=false:=za2 (by omega);have e2:IntKind.i64.wrap ((d:Int)+1)=(d:Int)+1:=IntWalk.i64_in _ (by omega);obtain⟨z,hz⟩:∃z:Int,((d+1:Nat):Int)=z:=⟨_,rfl⟩;have e3:IntKind.i64.wrap (z-1)=z-1:=IntWalk.i64_in _ (by omega);have HZ:=Lib.hid hz;have HDD:=Lib.hid hd;clear hP hB hM hMB hG o1F o2F hO hF hF2 hk hSg hs hN hd hN' hz;go_enter Tryz.func199,Tryz.ntmps199
 go_wp2_with (first
  |(go_at_call 125;(with_reducible refine(HA.out _ (HP.out.deep _ (by have:=HDD.out;omega))).mono ?_);rintro e w2 h;have h1:=h.1;subst h1;have H2:=Lib.hid h.2;clear h)
  |(go_at_call 162;(with_reducible refine(HE.out _ H2.out).mono ?_);rintro e w3 h;have h1:=h.1;subst h1;have c3:=h.2.depth;rw[HZ.out] at c3;obtain⟨cs3,hB3⟩:=h.2.isB;have bf3:=hB3.free;have bl3:=hB3.lt;clear hB3;have H3:=Lib.hid h.2;clear h)
  |(go_at_call 150;(with_reducible refine(HX.out _ (H3.out.deep _ (by have:=HZ.out;omega))).mono ?_);rintro e w4 h;have h1:=h.1;subst h1;have H4:=Lib.hid h.2;clear h))
 go_end0
 exact⟨rfl,by rw[<-HO.out];exact H4.out⟩
theorem z2j (C:PC){N:Nat}(rs:List (List Nat × Nat × Int))(qs:List Value)(ts:List Tok)(f:MF)(w0 w:World)(hP:St C N rs 200 qs w0 (.ok ts f) w)(hF:f.nodes.length<=N/\f.calls.length<=N/\rs.length<=N) :
  Calls Tryz.prog 199 #[.pointer (some ⟨C.B,0,none⟩)] w (DoIs C N rs 200 qs w0 (.bad ts true)):=by
 have c14:=hP.depth;obtain⟨cs,hB⟩:=hP.isB;have bl:=hB.lt;obtain⟨kq,tq,hP,ht⟩:=hP;have HX:=Lib.hid ((zpx C rs ts f 200 (qs++tq) w N true hP hF.1 hF.2.1 hF.2.2).mono fun e w' h=>(⟨h.1,St.trans kq ht h.2⟩:DoIs C N rs 200 qs w0 (.bad ts true) e w'));clear hP hB;go_enter Tryz.func199,Tryz.ntmps199
 go_wp2_with (go_at_call 161;(refine HX.out.mono ?_);rintro e w' h;have h1:=h.1;subst h1;have HO:=Lib.hid h.2;clear h)
 go_end0
 exact⟨rfl,HO.out⟩
end
section
open Go.RowKit
section
variable {C:PC} {N N':Nat} {rs:List (List Nat × Nat × Int)} {d:Nat} {qs:List Value} {w W:World}
theorem zma {fn:FuncId}{args:Array Value}{ts:List Tok}{f:MF}{o:PO}(h:St C N rs d qs w (.ok ts f) W)(hM:∀qs,PSt C rs ts f d qs W->Calls Tryz.prog fn args W (DoIs C N' rs d qs W o)):Calls Tryz.prog fn args W (DoIs C N' rs d qs w o):=by
 obtain⟨k,tq,hP,ht⟩:=h;exact(hM _ hP).mono fun e w' h=>⟨h.1,St.trans k ht h.2⟩
theorem zyq {ts:List Tok}{f:MF}{nd:PN}(h:St C N rs d qs w (.ok ts f) W)(hm:f.nodes.length<=1000000000)(hk:nd.kids=[]) :
  Calls Tryz.prog 185 #[.pointer (some ⟨C.B,0,none⟩),ndV nd (.slice none 0 0)] W (DoIs C N rs d qs w (.ok ts (addNY f nd))):=
 zma h fun qs hP=>by
  have:=zkd C rs ts f d qs W nd none 0 hP (by rw[hk];exact World.ownsRow_nil _ _ _ _) hm;rw[hk] at this;exact this.mono fun e w' h=>⟨h.1,h.2.1,[.slice none 0 0],h.2.2,fun q hq b hb=>by
   obtain rfl:=List.mem_singleton.1 hq;cases hb⟩
theorem z2k {ts:List Tok}{f:MF}{l:List Nat}(h:St C N rs d qs w (.ok ts f) W)(hl:∀x,x ∈ l->x<256)(hm:f.nodes.length+l.length<=100000000) :
  Calls Tryz.prog 200 #[.pointer (some ⟨C.B,0,none⟩),.string (strOf l)] W (DoIs C N rs d qs w (.ok ts (litN f l))):=
 zma h fun qs hP=>by
  have:=z68 C N rs ts f d qs W (strOf l) hP (by rw[zb1];exact hm) (fun g ks ka kc W' hK hg=>zp0 hK hg 3);rw[zhp l hl] at this;exact this
theorem PSt.token {ts:List Tok}{f:MF}(h:PSt C rs ts f d qs W):∃(k a:Nat) (x:List Nat) (r:List (Nat × Nat)) (tl:List Tok),ts=⟨k,a,x,r⟩::tl/\k≠99 /\
  (W.cell? ⟨C.B,2,none⟩=some (.int .i64 (k:Int))/\W.cell? ⟨C.B,3,none⟩=some (.int .i64 (a:Int))/\W.cell? ⟨C.B,4,none⟩=some (.string (strOf x))/\W.cell? ⟨C.B,5,none⟩=some (.int .u64 (setW (inRs r) 0))/\W.cell? ⟨C.B,6,none⟩=some (.int .u64 (setW (inRs r) 1))/\W.cell? ⟨C.B,7,none⟩=some (.int .u64 (setW (inRs r) 2))/\W.cell? ⟨C.B,8,none⟩=some (.int .u64 (setW (inRs r) 3)))/\C.B<W.heap.size:=by
 obtain⟨hF,n,⟨k,a,x,r⟩,rv,nv,cv,hc,hB,hR⟩:=h;obtain⟨h99,-,tl,rfl,-⟩:=hc;obtain⟨⟨-,-,b2,b3,b4,b5,b6,b7,b8⟩,-,-,bl⟩:=seventeen hB;exact⟨k,a,x,r,tl,rfl,h99,⟨b2,b3,b4,b5,b6,b7,b8⟩,bl⟩
end
section
variable (C:PC) (hSg:SignsAt C.w0) (hs:C.s.size<=1050000) {N N' d:Nat} (rs:List (List Nat × Nat × Int)) (qs:List Value) (f:MF) (w:World) (a:Nat) (x:List Nat) (r:List (Nat × Nat)) (tl:List Tok)
include hSg hs in
theorem z2l (hP:PSt C rs (⟨11,a,x,r⟩::tl) f d qs w)(hF:Fit 0 N rs (⟨11,a,x,r⟩::tl) f) :
  Calls Tryz.prog 197 #[.pointer (some ⟨C.B,0,none⟩)] w (DoIs C N rs d qs w (acc false tl (addNY f (clsN (fun _=>true))))):=by
 obtain⟨k,a',x',r',tl',e,-,⟨b2,b3,b4,b5,b6,b7,b8⟩,bl⟩:=hP.token;cases e;have hwt:wt (⟨11,a,x,r⟩::tl)=x.length+3+wt tl:=rfl;obtain⟨f1,f2,f3,f4,f5⟩:=hF;have HP:=Lib.hid fun(W:World) (h:Below w.heap.size w W)=>zyq (N:=N) (nd:=clsN (fun _=>true)) ((St.start hP).below h) (by omega) rfl
 have HA:=Lib.hid fun(W:World) (h:St C N rs d qs w (.ok (⟨11,a,x,r⟩::tl) (addNY f (clsN (fun _=>true)))) W)=>zgx hSg hs h ⟨by show(f.nodes++[_]).length<=_;rw[List.length_append,List.length_singleton];omega,by show f.calls.length<=_;omega,f3⟩ (show(11:Nat)≠0 by decide)
 clear hP hwt f1 f2 f3 f4 f5 hSg hs;go_enter Tryz.func197,Tryz.ntmps197
 go_wp2_with (first
  |(go_at_call 201;(with_reducible refine(zzp _).mono ?_);rintro e w2 ⟨rfl,hb⟩;have HB:=Lib.hid ((zab w _).trans (hb.mono (by simp)));clear hb)
  |(go_at_call 185;(refine(HP.out _ HB.out).mono ?_);rintro e w3 h;have h1:=h.1;subst h1;have H3:=Lib.hid h.2;clear h)
  |(go_at_call 125;(with_reducible refine(HA.out _ H3.out).mono ?_);rintro e w4 h;have h1:=h.1;subst h1;have H4:=Lib.hid h.2;clear h))
 go_end0
 exact⟨rfl,H4.out⟩
include hSg hs in
theorem z2m (hP:PSt C rs (⟨13,a,x,r⟩::tl) f d qs w)(hF:Fit 0 N rs (⟨13,a,x,r⟩::tl) f) :
  Calls Tryz.prog 197 #[.pointer (some ⟨C.B,0,none⟩)] w (DoIs C N rs d qs w (acc false tl (addNY f (clsN (inRs r))))):=by
 obtain⟨k,a',x',r',tl',e,-,⟨b2,b3,b4,b5,b6,b7,b8⟩,bl⟩:=hP.token;cases e;have hwt:wt (⟨13,a,x,r⟩::tl)=x.length+3+wt tl:=rfl;obtain⟨f1,f2,f3,f4,f5⟩:=hF;have HP:=Lib.hid fun(W:World) (h:Below w.heap.size w W)=>zyq (N:=N) (nd:=clsN (inRs r)) ((St.start hP).below h) (by omega) rfl
 have HA:=Lib.hid fun(W:World) (h:St C N rs d qs w (.ok (⟨13,a,x,r⟩::tl) (addNY f (clsN (inRs r)))) W)=>zgx hSg hs h ⟨by show(f.nodes++[_]).length<=_;rw[List.length_append,List.length_singleton];omega,by show f.calls.length<=_;omega,f3⟩ (show(13:Nat)≠0 by decide)
 clear hP hwt f1 f2 f3 f4 f5 hSg hs;go_enter Tryz.func197,Tryz.ntmps197
 go_wp2_with (first
  |(go_at_call 185;(refine(HP.out _ (zab w _)).mono ?_);rintro e w3 h;have h1:=h.1;subst h1;have H3:=Lib.hid h.2;clear h)
  |(go_at_call 125;(with_reducible refine(HA.out _ H3.out).mono ?_);rintro e w4 h;have h1:=h.1;subst h1;have H4:=Lib.hid h.2;clear h))
 go_end0
 exact⟨rfl,H4.out⟩
include hSg hs in
theorem z2n (hP:PSt C rs (⟨12,a,x,r⟩::tl) f d qs w)(hF:Fit 0 N rs (⟨12,a,x,r⟩::tl) f) :
  Calls Tryz.prog 197 #[.pointer (some ⟨C.B,0,none⟩)] w (DoIs C N rs d qs w (acc false tl (litN f x))):=by
 obtain⟨k,a',x',r',tl',e,-,⟨b2,b3,b4,b5,b6,b7,b8⟩,bl⟩:=hP.token;cases e;have hwt:wt (⟨12,a,x,r⟩::tl)=x.length+3+wt tl:=rfl;obtain⟨f1,f2,f3,f4,f5⟩:=hF;have hlg:=zxo f x;have HP:=Lib.hid fun(W:World) (h:Below w.heap.size w W)=>z2k (N:=N) (l:=x) ((St.start hP).below h) (f5 _ List.mem_cons_self).2 (by omega)
 have HA:=Lib.hid fun(W:World) (h:St C N rs d qs w (.ok (⟨12,a,x,r⟩::tl) (litN f x)) W)=>zgx hSg hs h ⟨by omega,by rw[hlg.2.1];omega,f3⟩ (show(12:Nat)≠0 by decide)
 clear hP hwt f1 f2 f3 f4 f5 hSg hs hlg;go_enter Tryz.func197,Tryz.ntmps197
 go_wp2_with (first
  |(go_at_call 200;(with_reducible refine(HP.out _ (zab w _)).mono ?_);rintro e w3 h;have h1:=h.1;subst h1;have H3:=Lib.hid h.2;clear h)
  |(go_at_call 125;(with_reducible refine(HA.out _ H3.out).mono ?_);rintro e w4 h;have h1:=h.1;subst h1;have H4:=Lib.hid h.2;clear h))
 go_end0
 exact⟨rfl,H4.out⟩
theorem zn1 (o:PO)(hP:PSt C rs (⟨9,a,x,r⟩::tl) f d qs w)
  (hE:∀W,St C N rs d qs w (.ok (⟨9,a,x,r⟩::tl) f) W->Calls Tryz.prog 199 #[.pointer (some ⟨C.B,0,none⟩)] W (DoIs C N' rs d qs w o)) :
  Calls Tryz.prog 197 #[.pointer (some ⟨C.B,0,none⟩)] w (DoIs C N' rs d qs w o):=by
 obtain⟨k,a',x',r',tl',e,-,⟨b2,b3,b4,b5,b6,b7,b8⟩,bl⟩:=hP.token;cases e;have HE:=Lib.hid fun(W:World) (h:Below w.heap.size w W)=>hE W ((St.start hP).below h)
 clear hP hE;go_enter Tryz.func197,Tryz.ntmps197
 go_wp2_with (go_at_call 199;(with_reducible refine(HE.out _ (zab w _)).mono ?_);rintro e w3 h;have h1:=h.1;subst h1;have H3:=Lib.hid h.2;clear h)
 go_end0
 exact⟨rfl,H3.out⟩
theorem zki (B k:Nat)(v3:Int)(v4:ByteArray)(v5 v6 v7 v8:Int)(Q:World->Prop)(hk:k≠1/\k≠9/\k≠12/\k≠13/\k≠11)(b2:w.cell? ⟨B,2,none⟩=some (.int .i64 (k:Int)))(b3:w.cell? ⟨B,3,none⟩=some (.int .i64 v3))(b4:w.cell? ⟨B,4,none⟩=some (.string v4))(b5:w.cell? ⟨B,5,none⟩=some (.int .u64 v5))(b6:w.cell? ⟨B,6,none⟩=some (.int .u64 v6))(b7:w.cell? ⟨B,7,none⟩=some (.int .u64 v7))(b8:w.cell? ⟨B,8,none⟩=some (.int .u64 v8))
  (hE:∀W,Below w.heap.size w W->Calls Tryz.prog 161 #[.pointer (some ⟨B,0,none⟩),.int .i64 1] W fun e w'=>e=.returned (.tuple #[])/\Q w') :
  Calls Tryz.prog 197 #[.pointer (some ⟨B,0,none⟩)] w fun e w'=>e=.returned (.tuple #[])/\Q w':=by
 have HE:=Lib.hid hE;have e1:((k:Int) == 1)=false:=za2 (by omega);have e2:((k:Int) == 9)=false:=za2 (by omega);have e3:((k:Int) == 12)=false:=za2 (by omega);have e4:((k:Int) == 13)=false:=za2 (by omega);have e5:((k:Int) == 11)=false:=za2 (by omega);clear hE hk;go_enter Tryz.func197,Tryz.ntmps197
 go_wp2_with (go_at_call 161;(with_reducible refine(HE.out _ (zab w _)).mono ?_);rintro e w3 h;have h1:=h.1;subst h1;have H3:=Lib.hid h.2;clear h)
 go_end0
 exact⟨rfl,H3.out⟩
theorem z7b (ts:List Tok)(hk:kd ts≠1/\kd ts≠9/\kd ts≠12/\kd ts≠13/\kd ts≠11)(hP:PSt C rs ts f d qs w)(hF:Fit 0 N rs ts f) :
  Calls Tryz.prog 197 #[.pointer (some ⟨C.B,0,none⟩)] w (DoIs C N rs d qs w (.bad ts false)):=by
 have hQ:=fun(W:World) (h:Below w.heap.size w W)=>zma (N:=N) (o:=.bad ts false) ((St.start hP).below h) fun qs hP=>zpx C rs ts f d qs W N false hP (by have:=hF.1;omega) (by have:=hF.2.1;omega) hF.2.2.1
 obtain⟨k,a',x',r',tl',rfl,-,⟨b2,b3,b4,b5,b6,b7,b8⟩,-⟩:=hP.token;exact zki w C.B k _ _ _ _ _ _ _ hk b2 b3 b4 b5 b6 b7 b8 hQ
theorem z2o:MBad C 197 d 0:=by
 intro a dp N w hN hP;have hQ:=fun(W:World) (h:Below w.heap.size w W)=>(zr9 C a dp N d W 1 (hP.below h)).mono fun e w' (k:BadIs C a dp N d W e w')=>(⟨k.1,(Kq.of_below h).trans k.2.1,k.2.2⟩:e=.returned (.tuple #[])/\(Kq C.w0.heap.size C.B w w'/\PBad C (erV a dp) N d w'))
 obtain⟨-,n,rv,nv,cv,m1,m2,m3,c1,c2,c3,hB,-⟩:=hP;obtain⟨⟨-,-,b2,b3,b4,b5,b6,b7,b8⟩,-⟩:=seventeen hB.unzero;exact zki w C.B 0 _ _ _ _ _ _ _ (by decide) b2 b3 b4 b5 b6 b7 b8 hQ
end
end
end Go.Proofs.YthhppmehhdlmnaaGreatDoor
