/- gram.wellMade and the reference's Made: the same for every node. Written by wip/gen/made.py. -/
import Derived.Test.YtmopdlbpkiaoeaaGreatDoorPqGA
set_option maxRecDepth 100000
set_option maxHeartbeats 1000000
open Go.IntKind renaming u64->jg
open Go.Value renaming int->je, slice->jf, bool->ji
namespace Go.Proofs.YtmopdlbpkiaoeaaGreatDoor
open Bool renaming and_false->qdv
open Go.Lib renaming hid->qaa
open Go.Proofs.Tryz renaming func82->qca, func92->qb7, ntmps82->qb3, ntmps92->qb0, prog->qab
open Go.RowKit
variable {z:Bool}{op rule:Int}{R l:Nat}
def made5 (op:Int)(l:Nat)(rule:Int)(R:Nat)(z:Bool):Bool:=
 decide (0<=op)&&decide (op<=9)&&(if op<=2 then l == 0 else if op<=4 then decide (2<=l) else l == 1)&&(if op=2 then decide (0<=rule)&&decide (rule<R) else rule == 0)&&(op == 1 || z)
theorem zsa (n:PN)(R:Nat):madeB n R=made5 n.op n.kids.length n.rule R (n.s0 == 0&&n.s1 == 0&&n.s2 == 0&&n.s3 == 0):=rfl
theorem zxk (x0 x1 x2 x3:Int):(x0 == 0&&x1 == 0&&x2 == 0&&x3 == 0)=(x0 == 0&&(x1 == 0&&(x2 == 0&&x3 == 0))):=by
 rw[Bool.and_assoc,Bool.and_assoc]
theorem zog (h:op<0):made5 op l rule R z=false:=by
 unfold made5;rw[decide_eq_false (by omega:¬0<=op)];rfl
theorem zla (h:9<op):made5 op l rule R z=false:=by
 unfold made5;rw[decide_eq_false (by omega:¬op<=9),qdv];rfl
theorem zbm (h:op≠1):made5 op l rule R false=false:=by
 unfold made5;rw[zae h];simp
theorem zar (h:op≠2)(h2:rule≠0):made5 op l rule R z=false:=by
 unfold made5;rw[if_neg h,zae h2];simp
theorem zdh {R:Nat}(h:rule<0∨(R:Int)<=rule):made5 2 l rule R z=false:=by
 have:(decide (0<=rule)&&decide (rule<(R:Int)))=false:=by
  rcases h with h|h
  ·rw[decide_eq_false (by omega:¬0<=rule)];rfl
  ·rw[decide_eq_false (by omega:¬rule<R),qdv]
 unfold made5;rw[if_pos rfl,this];simp
theorem za4 (h:op<=2)(h2:l≠0):made5 op l rule R z=false:=by
 have:(l == 0)=false:=by simpa using h2
 unfold made5;rw[if_pos h,this];simp
theorem zbr (h:op=3∨op=4)(h2:l<2):made5 op l rule R z=false:=by
 unfold made5;rw[if_neg U,if_pos U,decide_eq_false (by omega:¬2<=l)];simp
theorem zau (h:5<=op)(h2:l≠1):made5 op l rule R z=false:=by
 have:(l == 1)=false:=by simpa using h2
 unfold made5;rw[if_neg U,if_neg U,this];simp
theorem zbb (h0:0<=op)(h9:op<=9)(hl:(op<=2->l=0)/\(2<op->op<=4->2<=l)/\(4<op->l=1))(hr:(op=2->0<=rule/\rule<R)/\(op≠2->rule=0))(hz:op=1∨z=true):made5 op l rule R z=true:=by
 unfold made5;have e1:(if op<=2 then l == 0 else if op<=4 then decide (2<=l) else l == 1)=true:=by
  by_cases a:op<=2
  ·rw[if_pos a];simpa using hl.1 a
  ·rw[if_neg a]
   by_cases b:op<=4
   ·rw[if_pos b];simpa using hl.2.1 U b
   ·rw[if_neg b];simpa using hl.2.2 U
 have e2:(if op=2 then decide (0<=rule)&&decide (rule<(R:Int)) else rule == 0)=true:=by
  by_cases a:op=2
  ·rw[if_pos a];simpa using hr.1 a
  ·rw[if_neg a];simpa using hr.2 a
 have e3:(op == 1 || z)=true:=by
  rcases hz with h|h
  ·subst h;rfl
  ·rw[h,Bool.or_true]
 rw[decide_eq_true h0,decide_eq_true h9,e1,e2,e3];rfl
def z4 (x0 x1 x2 x3:Int):Bool:=x0 == 0&&(x1 == 0&&(x2 == 0&&x3 == 0))
def PmIs (F:FuncId)(op:Int)(l:Nat)(rule x0 x1 x2 x3:Int)(R:Nat)(b:Bool):Prop:=
 ∀(ka:Option Addr) (kc:Nat) (w:World),l<=9223372036854775807->Calls qab F #[.agg #[je .i64 op,jf ka l kc,je .i64 rule,je jg x0,je jg x1,je jg x2,je jg x3],je .i64 (R:Int)] w fun e w'=>e=.returned (ji b)/\Below w.heap.size w w'
theorem sne {x0 x1 x2 x3:Int}{b:Bool}(hz:z4 x0 x1 x2 x3=b):Hid (∀w,(binOp .neq 41 (.agg #[je jg x0,je jg x1,je jg x2,je jg x3]) (.agg #[je jg 0,je jg 0,je jg 0,je jg 0])).run qab w=.ok (ji (!b)) w):=qaa fun w=>by
 unfold z4 at hz;rw[zl1,hz]
theorem seq {x0 x1 x2 x3:Int}{b:Bool}(hz:z4 x0 x1 x2 x3=b):Hid (∀w,(binOp .eql 41 (.agg #[je jg x0,je jg x1,je jg x2,je jg x3]) (.agg #[je jg 0,je jg 0,je jg 0,je jg 0])).run qab w=.ok (ji b) w):=qaa fun w=>by
 unfold z4 at hz;rw[zzx,hz]
section
variable {l:Nat} {rule x0 x1 x2 x3:Int} {R:Nat}
set_option maxHeartbeats 1000000
set_option maxRecDepth 100000
theorem yal9 {l:Nat}(h:2<=l):Hid ((((l:Int) != 0)=true/\((l:Int) != 1)=true/\((l:Int) == 0)=false)/\((l:Int) == 1)=false/\¬(l:Int)<2/\(2:Int)<=(l:Int)):=qaa ⟨⟨zah U,zah U,zae U⟩,zae U,U,U⟩
theorem yama (h:op<0∨9<op):Hid ((((op == 0)=false/\(op == 1)=false/\(op == 2)=false/\(op == 3)=false/\(op == 4)=false)/\(op == 5)=false/\(op == 6)=false/\(op == 7)=false/\(op == 8)=false/\(op == 9)=false)/\(op != 1)=true/\(op != 2)=true):=qaa ⟨⟨⟨zae U,zae U,zae U,zae U,zae U⟩,zae U,zae U,zae U,zae U,zae U⟩,zah U,zah U⟩
theorem yamb (hop:op<0∨9<op)(hz:z4 x0 x1 x2 x3=false):PmIs 92 op l rule x0 x1 x2 x3 R false:=by
 intro ka kc w _;have HS:=sne hz;clear hz;obtain⟨⟨⟨q0,q1,q2,q3,q4⟩,q5,q6,q7,q8,q9⟩,n1,n2⟩:=(yama hop).out;clear hop;go_enter qb7,qb0
 go_wp2_with (with_reducible refine zaf BinOp.neq 41 _ _ _ rfl rfl _ _ rfl rfl zal _ (HS.out _) ?_)
 go_ret;exact⟨rfl,zaa _ _⟩
theorem yamc (hop:op<0∨9<op)(hz:z4 x0 x1 x2 x3=true)(hr:(rule != 0)=true):PmIs 92 op l rule x0 x1 x2 x3 R false:=by
 intro ka kc w _;have HS:=sne hz;clear hz;obtain⟨⟨⟨q0,q1,q2,q3,q4⟩,q5,q6,q7,q8,q9⟩,n1,n2⟩:=(yama hop).out;clear hop;go_enter qb7,qb0
 go_wp2_with (with_reducible refine zaf BinOp.neq 41 _ _ _ rfl rfl _ _ rfl rfl zal _ (HS.out _) ?_)
 go_ret;exact⟨rfl,zaa _ _⟩
theorem yamd (hop:op<0∨9<op)(hz:z4 x0 x1 x2 x3=true)(hr:(rule != 0)=false):PmIs 92 op l rule x0 x1 x2 x3 R false:=by
 intro ka kc w _;have HS:=sne hz;clear hz;obtain⟨⟨⟨q0,q1,q2,q3,q4⟩,q5,q6,q7,q8,q9⟩,n1,n2⟩:=(yama hop).out;clear hop;go_enter qb7,qb0
 go_wp2_with (with_reducible refine zaf BinOp.neq 41 _ _ _ rfl rfl _ _ rfl rfl zal _ (HS.out _) ?_)
 go_ret;exact⟨rfl,zaa _ _⟩
theorem pm_s (ho:op=0∨op=2∨op=3∨op=4∨op=5∨op=6∨op=7∨op=8∨op=9)(hz:z4 x0 x1 x2 x3=false):PmIs 92 op l rule x0 x1 x2 x3 R false:=by
 intro ka kc w _;have HS:=sne hz;clear hz;rcases ho with rfl|rfl|rfl|rfl|rfl|rfl|rfl|rfl|rfl
 all_goals
  go_enter qb7,qb0
  go_wp2_with (with_reducible refine zaf BinOp.neq 41 _ _ _ rfl rfl _ _ rfl rfl zal _ (HS.out _) ?_)
  go_ret;exact⟨rfl,zaa _ _⟩
theorem pm_r (ho:op=0∨op=3∨op=4∨op=5∨op=6∨op=7∨op=8∨op=9)(hz:z4 x0 x1 x2 x3=true)(hr:(rule != 0)=true):PmIs 92 op l rule x0 x1 x2 x3 R false:=by
 intro ka kc w _;have HS:=sne hz;clear hz;rcases ho with rfl|rfl|rfl|rfl|rfl|rfl|rfl|rfl
 all_goals
  go_enter qb7,qb0
  go_wp2_with (with_reducible refine zaf BinOp.neq 41 _ _ _ rfl rfl _ _ rfl rfl zal _ (HS.out _) ?_)
  go_ret;exact⟨rfl,zaa _ _⟩
theorem pm_t0 (hz:z4 x0 x1 x2 x3=true)(k0:l=0)(hr:(rule != 0)=false):PmIs 92 0 l rule x0 x1 x2 x3 R true:=by
 intro ka kc w _;have HS:=sne hz;clear hz;subst k0;go_enter qb7,qb0
 go_wp2_with (with_reducible refine zaf BinOp.neq 41 _ _ _ rfl rfl _ _ rfl rfl zal _ (HS.out _) ?_)
 go_ret;exact⟨rfl,zaa _ _⟩
theorem pm_f0 (ho:op=3∨op=4∨op=5∨op=6∨op=7∨op=8∨op=9)(hz:z4 x0 x1 x2 x3=true)(k0:l=0)(hr:(rule != 0)=false):PmIs 92 op l rule x0 x1 x2 x3 R false:=by
 intro ka kc w _;have HS:=sne hz;clear hz;subst k0;rcases ho with rfl|rfl|rfl|rfl|rfl|rfl|rfl
 all_goals
  go_enter qb7,qb0
  go_wp2_with (with_reducible refine zaf BinOp.neq 41 _ _ _ rfl rfl _ _ rfl rfl zal _ (HS.out _) ?_)
  go_ret;exact⟨rfl,zaa _ _⟩
theorem pm_t1 (ho:op=5∨op=6∨op=7∨op=8∨op=9)(hz:z4 x0 x1 x2 x3=true)(k1:l=1)(hr:(rule != 0)=false):PmIs 92 op l rule x0 x1 x2 x3 R true:=by
 intro ka kc w _;have HS:=sne hz;clear hz;subst k1;rcases ho with rfl|rfl|rfl|rfl|rfl
 all_goals
  go_enter qb7,qb0
  go_wp2_with (with_reducible refine zaf BinOp.neq 41 _ _ _ rfl rfl _ _ rfl rfl zal _ (HS.out _) ?_)
  go_ret;exact⟨rfl,zaa _ _⟩
theorem pm_f1 (ho:op=0∨op=3∨op=4)(hz:z4 x0 x1 x2 x3=true)(k1:l=1)(hr:(rule != 0)=false):PmIs 92 op l rule x0 x1 x2 x3 R false:=by
 intro ka kc w _;have HS:=sne hz;clear hz;subst k1;rcases ho with rfl|rfl|rfl
 all_goals
  go_enter qb7,qb0
  go_wp2_with (with_reducible refine zaf BinOp.neq 41 _ _ _ rfl rfl _ _ rfl rfl zal _ (HS.out _) ?_)
  go_ret;exact⟨rfl,zaa _ _⟩
theorem pm_t2 (ho:op=3∨op=4)(hz:z4 x0 x1 x2 x3=true)(k2:2<=l)(hr:(rule != 0)=false):PmIs 92 op l rule x0 x1 x2 x3 R true:=by
 intro ka kc w _;have HS:=sne hz;clear hz;obtain⟨⟨m0,m1,m2⟩,m3,m4,m5⟩:=(yal9 k2).out;rcases ho with rfl|rfl
 all_goals
  go_enter qb7,qb0
  go_wp2_with (with_reducible refine zaf BinOp.neq 41 _ _ _ rfl rfl _ _ rfl rfl zal _ (HS.out _) ?_)
  go_ret;exact⟨rfl,zaa _ _⟩
theorem pm_f2 (ho:op=0∨op=5∨op=6∨op=7∨op=8∨op=9)(hz:z4 x0 x1 x2 x3=true)(k2:2<=l)(hr:(rule != 0)=false):PmIs 92 op l rule x0 x1 x2 x3 R false:=by
 intro ka kc w _;have HS:=sne hz;clear hz;obtain⟨⟨m0,m1,m2⟩,m3,m4,m5⟩:=(yal9 k2).out;rcases ho with rfl|rfl|rfl|rfl|rfl|rfl
 all_goals
  go_enter qb7,qb0
  go_wp2_with (with_reducible refine zaf BinOp.neq 41 _ _ _ rfl rfl _ _ rfl rfl zal _ (HS.out _) ?_)
  go_ret;exact⟨rfl,zaa _ _⟩
theorem pm_1r (hr:(rule != 0)=true):PmIs 92 1 l rule x0 x1 x2 x3 R false:=by
 intro ka kc w _;go_enter qb7,qb0;go_wp2;go_ret;exact⟨rfl,zaa _ _⟩
theorem pm_10 (k0:l=0)(hr:(rule != 0)=false):PmIs 92 1 l rule x0 x1 x2 x3 R true:=by
 intro ka kc w _;subst k0;go_enter qb7,qb0;go_wp2;go_ret;exact⟨rfl,zaa _ _⟩
theorem pm_11 (k1:l=1)(hr:(rule != 0)=false):PmIs 92 1 l rule x0 x1 x2 x3 R false:=by
 intro ka kc w _;subst k1;go_enter qb7,qb0;go_wp2;go_ret;exact⟨rfl,zaa _ _⟩
theorem pm_12 (k2:2<=l)(hr:(rule != 0)=false):PmIs 92 1 l rule x0 x1 x2 x3 R false:=by
 intro ka kc w _;obtain⟨⟨m0,m1,m2⟩,m3,m4,m5⟩:=(yal9 k2).out;go_enter qb7,qb0;go_wp2;go_ret;exact⟨rfl,zaa _ _⟩
theorem pm_2a (hz:z4 x0 x1 x2 x3=true)(k0:l=0)(hr:¬0<=rule):PmIs 92 2 l rule x0 x1 x2 x3 R false:=by
 intro ka kc w _;have HS:=sne hz;clear hz;subst k0;go_enter qb7,qb0
 go_wp2_with (with_reducible refine zaf BinOp.neq 41 _ _ _ rfl rfl _ _ rfl rfl zal _ (HS.out _) ?_)
 go_ret;exact⟨rfl,zaa _ _⟩
theorem pm_2b (hz:z4 x0 x1 x2 x3=true)(k0:l=0)(hr:0<=rule)(hR:¬rule<(R:Int)):PmIs 92 2 l rule x0 x1 x2 x3 R false:=by
 intro ka kc w _;have HS:=sne hz;clear hz;subst k0;go_enter qb7,qb0
 go_wp2_with (with_reducible refine zaf BinOp.neq 41 _ _ _ rfl rfl _ _ rfl rfl zal _ (HS.out _) ?_)
 go_ret;exact⟨rfl,zaa _ _⟩
theorem pm_20 (hz:z4 x0 x1 x2 x3=true)(k0:l=0)(hr:0<=rule)(hR:rule<(R:Int)):PmIs 92 2 l rule x0 x1 x2 x3 R true:=by
 intro ka kc w _;have HS:=sne hz;clear hz;subst k0;go_enter qb7,qb0
 go_wp2_with (with_reducible refine zaf BinOp.neq 41 _ _ _ rfl rfl _ _ rfl rfl zal _ (HS.out _) ?_)
 go_ret;exact⟨rfl,zaa _ _⟩
theorem pm_21 (hz:z4 x0 x1 x2 x3=true)(k1:l=1):PmIs 92 2 l rule x0 x1 x2 x3 R false:=by
 intro ka kc w _;have HS:=sne hz;clear hz;subst k1;go_enter qb7,qb0
 go_wp2_with (with_reducible refine zaf BinOp.neq 41 _ _ _ rfl rfl _ _ rfl rfl zal _ (HS.out _) ?_)
 go_ret;exact⟨rfl,zaa _ _⟩
theorem pm_22 (hz:z4 x0 x1 x2 x3=true)(k2:2<=l):PmIs 92 2 l rule x0 x1 x2 x3 R false:=by
 intro ka kc w _;have HS:=sne hz;clear hz;obtain⟨⟨m0,m1,m2⟩,m3,m4,m5⟩:=(yal9 k2).out;go_enter qb7,qb0
 go_wp2_with (with_reducible refine zaf BinOp.neq 41 _ _ _ rfl rfl _ _ rfl rfl zal _ (HS.out _) ?_)
 go_ret;exact⟨rfl,zaa _ _⟩
theorem z8a (hop:op<0):PmIs 82 op l rule x0 x1 x2 x3 R false:=by
 intro ka kc w _;go_enter qca,qb3;go_wp2;go_ret;exact⟨rfl,zaa _ _⟩
theorem z48 (hop:9<op)(hop0:¬op<0):PmIs 82 op l rule x0 x1 x2 x3 R false:=by
 intro ka kc w _;go_enter qca,qb3;go_wp2;go_ret;exact⟨rfl,zaa _ _⟩
theorem rm_f0 (ho:op=3∨op=4∨op=5∨op=6∨op=7∨op=8∨op=9)(k0:l=0):PmIs 82 op l rule x0 x1 x2 x3 R false:=by
 intro ka kc w _;subst k0;rcases ho with rfl|rfl|rfl|rfl|rfl|rfl|rfl
 all_goals
  go_enter qca,qb3;go_wp2;go_ret;exact⟨rfl,zaa _ _⟩
theorem rm_r0 (ho:op=0∨op=1)(k0:l=0)(hr:(rule != 0)=true):PmIs 82 op l rule x0 x1 x2 x3 R false:=by
 intro ka kc w _;subst k0;rcases ho with rfl|rfl
 all_goals
  go_enter qca,qb3;go_wp2;go_ret;exact⟨rfl,zaa _ _⟩
theorem rm_s0 (k0:l=0)(hr:(rule != 0)=false)(hz:z4 x0 x1 x2 x3=false):PmIs 82 0 l rule x0 x1 x2 x3 R false:=by
 intro ka kc w _;have HS:=seq hz;clear hz;subst k0;go_enter qca,qb3
 go_wp2_with (with_reducible refine zaf BinOp.eql 41 _ _ _ rfl rfl _ _ rfl rfl zal _ (HS.out _) ?_)
 go_ret;exact⟨rfl,zaa _ _⟩
theorem rm_t0 (k0:l=0)(hr:(rule != 0)=false)(hz:z4 x0 x1 x2 x3=true):PmIs 82 0 l rule x0 x1 x2 x3 R true:=by
 intro ka kc w _;have HS:=seq hz;clear hz;subst k0;go_enter qca,qb3
 go_wp2_with (with_reducible refine zaf BinOp.eql 41 _ _ _ rfl rfl _ _ rfl rfl zal _ (HS.out _) ?_)
 go_ret;exact⟨rfl,zaa _ _⟩
theorem rm_f1 (ho:op=0∨op=1∨op=2∨op=3∨op=4)(k1:l=1):PmIs 82 op l rule x0 x1 x2 x3 R false:=by
 intro ka kc w _;subst k1;rcases ho with rfl|rfl|rfl|rfl|rfl
 all_goals
  go_enter qca,qb3;go_wp2;go_ret;exact⟨rfl,zaa _ _⟩
theorem rm_r1 (ho:op=5∨op=6∨op=7∨op=8∨op=9)(k1:l=1)(hr:(rule != 0)=true):PmIs 82 op l rule x0 x1 x2 x3 R false:=by
 intro ka kc w _;subst k1;rcases ho with rfl|rfl|rfl|rfl|rfl
 all_goals
  go_enter qca,qb3;go_wp2;go_ret;exact⟨rfl,zaa _ _⟩
theorem rm_s1 (ho:op=5∨op=6∨op=7∨op=8∨op=9)(k1:l=1)(hr:(rule != 0)=false)(hz:z4 x0 x1 x2 x3=false):PmIs 82 op l rule x0 x1 x2 x3 R false:=by
 intro ka kc w _;have HS:=seq hz;clear hz;subst k1;rcases ho with rfl|rfl|rfl|rfl|rfl
 all_goals
  go_enter qca,qb3
  go_wp2_with (with_reducible refine zaf BinOp.eql 41 _ _ _ rfl rfl _ _ rfl rfl zal _ (HS.out _) ?_)
  go_ret;exact⟨rfl,zaa _ _⟩
theorem rm_t1 (ho:op=5∨op=6∨op=7∨op=8∨op=9)(k1:l=1)(hr:(rule != 0)=false)(hz:z4 x0 x1 x2 x3=true):PmIs 82 op l rule x0 x1 x2 x3 R true:=by
 intro ka kc w _;have HS:=seq hz;clear hz;subst k1;rcases ho with rfl|rfl|rfl|rfl|rfl
 all_goals
  go_enter qca,qb3
  go_wp2_with (with_reducible refine zaf BinOp.eql 41 _ _ _ rfl rfl _ _ rfl rfl zal _ (HS.out _) ?_)
  go_ret;exact⟨rfl,zaa _ _⟩
theorem rm_f2 (ho:op=0∨op=1∨op=2∨op=5∨op=6∨op=7∨op=8∨op=9)(k2:2<=l):PmIs 82 op l rule x0 x1 x2 x3 R false:=by
 intro ka kc w _;obtain⟨⟨m0,m1,m2⟩,m3,m4,m5⟩:=(yal9 k2).out;rcases ho with rfl|rfl|rfl|rfl|rfl|rfl|rfl|rfl
 all_goals
  go_enter qca,qb3;go_wp2;go_ret;exact⟨rfl,zaa _ _⟩
theorem rm_r2 (ho:op=3∨op=4)(k2:2<=l)(hr:(rule != 0)=true):PmIs 82 op l rule x0 x1 x2 x3 R false:=by
 intro ka kc w _;obtain⟨⟨m0,m1,m2⟩,m3,m4,m5⟩:=(yal9 k2).out;rcases ho with rfl|rfl
 all_goals
  go_enter qca,qb3;go_wp2;go_ret;exact⟨rfl,zaa _ _⟩
theorem rm_s2 (ho:op=3∨op=4)(k2:2<=l)(hr:(rule != 0)=false)(hz:z4 x0 x1 x2 x3=false):PmIs 82 op l rule x0 x1 x2 x3 R false:=by
 intro ka kc w _;have HS:=seq hz;clear hz;obtain⟨⟨m0,m1,m2⟩,m3,m4,m5⟩:=(yal9 k2).out;rcases ho with rfl|rfl
 all_goals
  go_enter qca,qb3
  go_wp2_with (with_reducible refine zaf BinOp.eql 41 _ _ _ rfl rfl _ _ rfl rfl zal _ (HS.out _) ?_)
  go_ret;exact⟨rfl,zaa _ _⟩
theorem rm_t2 (ho:op=3∨op=4)(k2:2<=l)(hr:(rule != 0)=false)(hz:z4 x0 x1 x2 x3=true):PmIs 82 op l rule x0 x1 x2 x3 R true:=by
 intro ka kc w _;have HS:=seq hz;clear hz;obtain⟨⟨m0,m1,m2⟩,m3,m4,m5⟩:=(yal9 k2).out;rcases ho with rfl|rfl
 all_goals
  go_enter qca,qb3
  go_wp2_with (with_reducible refine zaf BinOp.eql 41 _ _ _ rfl rfl _ _ rfl rfl zal _ (HS.out _) ?_)
  go_ret;exact⟨rfl,zaa _ _⟩
theorem rm_10 (k0:l=0)(hr:(rule != 0)=false):PmIs 82 1 l rule x0 x1 x2 x3 R true:=by
 intro ka kc w _;subst k0;go_enter qca,qb3;go_wp2;go_ret;exact⟨rfl,zaa _ _⟩
theorem rm_2a (k0:l=0)(hr:rule<0):PmIs 82 2 l rule x0 x1 x2 x3 R false:=by
 intro ka kc w _;subst k0;go_enter qca,qb3;go_wp2;go_ret;exact⟨rfl,zaa _ _⟩
theorem rm_2b (k0:l=0)(hr:¬rule<0)(hR:(R:Int)<=rule):PmIs 82 2 l rule x0 x1 x2 x3 R false:=by
 intro ka kc w _;subst k0;go_enter qca,qb3;go_wp2;go_ret;exact⟨rfl,zaa _ _⟩
theorem rm_2s (k0:l=0)(hr:¬rule<0)(hR:¬(R:Int)<=rule)(hz:z4 x0 x1 x2 x3=false):PmIs 82 2 l rule x0 x1 x2 x3 R false:=by
 intro ka kc w _;have HS:=seq hz;clear hz;subst k0;go_enter qca,qb3
 go_wp2_with (with_reducible refine zaf BinOp.eql 41 _ _ _ rfl rfl _ _ rfl rfl zal _ (HS.out _) ?_)
 go_ret;exact⟨rfl,zaa _ _⟩
theorem rm_20 (k0:l=0)(hr:¬rule<0)(hR:¬(R:Int)<=rule)(hz:z4 x0 x1 x2 x3=true):PmIs 82 2 l rule x0 x1 x2 x3 R true:=by
 intro ka kc w _;have HS:=seq hz;clear hz;subst k0;go_enter qca,qb3
 go_wp2_with (with_reducible refine zaf BinOp.eql 41 _ _ _ rfl rfl _ _ rfl rfl zal _ (HS.out _) ?_)
 go_ret;exact⟨rfl,zaa _ _⟩
end
theorem z8k (op:Int)(ka:Option Addr)(l kc:Nat)(rule x0 x1 x2 x3:Int)(R:Nat)(w:World)(hl:l<=9223372036854775807) :
  Calls qab 92 #[.agg #[je .i64 op,jf ka l kc,je .i64 rule,je jg x0,je jg x1,je jg x2,je jg x3],je .i64 (R:Int)] w fun e w'=>e=.returned (ji (made5 op l rule R (x0 == 0&&(x1 == 0&&(x2 == 0&&x3 == 0)))))/\Below w.heap.size w w':=by
 refine(?_:PmIs 92 op l rule x0 x1 x2 x3 R (made5 op l rule R (z4 x0 x1 x2 x3))) ka kc w hl;clear hl w kc ka;have hrr:(rule != 0)=false/\rule=0∨(rule != 0)=true/\rule≠0:=by
  by_cases h:rule=0
  ·exact .inl ⟨by rw[h];rfl,h⟩
  ·exact .inr ⟨zah h,h⟩
 have hk:l=0∨l=1∨2<=l:=U
 by_cases hout:op<0∨9<op
 ·have e:made5 op l rule R (z4 x0 x1 x2 x3)=false:=hout.elim zog zla
  rw[e];cases hz:z4 x0 x1 x2 x3 with
  |false=>exact yamb hout hz
  |true=>
   rcases hrr with⟨hr,-⟩|⟨hr,-⟩
   ·exact yamd hout hz hr
   ·exact yamc hout hz hr
 by_cases h1:op=1
 ·subst h1
  rcases hrr with⟨hr,hr0⟩|⟨hr,hr0⟩
  ·rcases hk with hk|hk|hk
   ·rw[zbb U U U U (Or.inl rfl)];exact pm_10 hk hr
   ·rw[za4 U U];exact pm_11 hk hr
   ·rw[za4 U U];exact pm_12 hk hr
  ·rw[zar U hr0];exact pm_1r hr
 cases hz:z4 x0 x1 x2 x3 with
 |false=>rw[zbm h1];exact pm_s U hz
 |true=>
 by_cases h2:op=2
 ·subst h2
  rcases hk with hk|hk|hk
  ·by_cases hr:0<=rule
   ·by_cases hR:rule<(R:Int)
    ·rw[zbb U U U U (Or.inr rfl)];exact pm_20 hz hk hr hR
    ·rw[zdh U];exact pm_2b hz hk hr hR
   ·rw[zdh U];exact pm_2a hz hk hr
  ·rw[za4 U U];exact pm_21 hz hk
  ·rw[za4 U U];exact pm_22 hz hk
 rcases hrr with⟨hr,hr0⟩|⟨hr,hr0⟩
 case inr=>rw[zar h2 hr0];exact pm_r U hz hr
 rcases(by omega:op=0∨(op=3∨op=4)∨5<=op) with ho|ho|ho
 ·rcases hk with hk|hk|hk
  ·subst ho;rw[zbb U U U U (Or.inr rfl)];exact pm_t0 hz hk hr
  ·rw[za4 U U];exact pm_f1 U hz hk hr
  ·rw[za4 U U];exact pm_f2 U hz hk hr
 ·rcases hk with hk|hk|hk
  ·rw[zbr U U];exact pm_f0 U hz hk hr
  ·rw[zbr U U];exact pm_f1 U hz hk hr
  ·rw[zbb U U U U (Or.inr rfl)];exact pm_t2 U hz hk hr
 ·rcases hk with hk|hk|hk
  ·rw[zau U U];exact pm_f0 U hz hk hr
  ·rw[zbb U U U U (Or.inr rfl)];exact pm_t1 U hz hk hr
  ·rw[zau U U];exact pm_f2 U hz hk hr
theorem z8l (op:Int)(ka:Option Addr)(l kc:Nat)(rule x0 x1 x2 x3:Int)(R:Nat)(w:World)(hl:l<=9223372036854775807) :
  Calls qab 82 #[.agg #[je .i64 op,jf ka l kc,je .i64 rule,je jg x0,je jg x1,je jg x2,je jg x3],je .i64 (R:Int)] w fun e w'=>e=.returned (ji (made5 op l rule R (x0 == 0&&(x1 == 0&&(x2 == 0&&x3 == 0)))))/\Below w.heap.size w w':=by
 refine(?_:PmIs 82 op l rule x0 x1 x2 x3 R (made5 op l rule R (z4 x0 x1 x2 x3))) ka kc w hl;clear hl w kc ka;have hrr:(rule != 0)=false/\rule=0∨(rule != 0)=true/\rule≠0:=by
  by_cases h:rule=0
  ·exact .inl ⟨by rw[h];rfl,h⟩
  ·exact .inr ⟨zah h,h⟩
 have hk:l=0∨l=1∨2<=l:=U
 by_cases h0:op<0
 ·rw[zog h0];exact z8a h0
 by_cases h9:9<op
 ·rw[zla h9];exact z48 h9 h0
 by_cases h2:op=2
 ·subst h2
  rcases hk with hk|hk|hk
  ·by_cases hr:rule<0
   ·rw[zdh U];exact rm_2a hk hr
   ·by_cases hR:(R:Int)<=rule
    ·rw[zdh U];exact rm_2b hk hr hR
    ·cases hz:z4 x0 x1 x2 x3 with
     |false=>rw[zbm U];exact rm_2s hk hr hR hz
     |true=>rw[zbb U U U U (Or.inr rfl)];exact rm_20 hk hr hR hz
  ·rw[za4 U U];exact rm_f1 U hk
  ·rw[za4 U U];exact rm_f2 U hk
 rcases(by omega:(op=0∨op=1)∨(op=3∨op=4)∨5<=op) with ho|ho|ho
 ·rcases hk with hk|hk|hk
  ·rcases hrr with⟨hr,hr0⟩|⟨hr,hr0⟩
   case inr=>rw[zar h2 hr0];exact rm_r0 U hk hr
   by_cases h1:op=1
   ·subst h1;rw[zbb U U U U (Or.inl rfl)];exact rm_10 hk hr
   obtain rfl:op=0:=U
   cases hz:z4 x0 x1 x2 x3 with
   |false=>rw[zbm U];exact rm_s0 hk hr hz
   |true=>rw[zbb U U U U (Or.inr rfl)];exact rm_t0 hk hr hz
  ·rw[za4 U U];exact rm_f1 U hk
  ·rw[za4 U U];exact rm_f2 U hk
 ·rcases hk with hk|hk|hk
  ·rw[zbr U U];exact rm_f0 U hk
  ·rw[zbr U U];exact rm_f1 U hk
  ·rcases hrr with⟨hr,hr0⟩|⟨hr,hr0⟩
   case inr=>rw[zar h2 hr0];exact rm_r2 U hk hr
   cases hz:z4 x0 x1 x2 x3 with
   |false=>rw[zbm U];exact rm_s2 U hk hr hz
   |true=>rw[zbb U U U U (Or.inr rfl)];exact rm_t2 U hk hr hz
 ·rcases hk with hk|hk|hk
  ·rw[zau U U];exact rm_f0 U hk
  ·rcases hrr with⟨hr,hr0⟩|⟨hr,hr0⟩
   case inr=>rw[zar h2 hr0];exact rm_r1 U hk hr
   cases hz:z4 x0 x1 x2 x3 with
   |false=>rw[zbm U];exact rm_s1 U hk hr hz
   |true=>rw[zbb U U U U (Or.inr rfl)];exact rm_t1 U hk hr hz
  ·rw[zau U U];exact rm_f2 U hk
