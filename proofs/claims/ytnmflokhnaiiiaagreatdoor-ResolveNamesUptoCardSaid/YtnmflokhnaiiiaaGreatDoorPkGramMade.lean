/- gram.wellMade and the reference's Made: the same for every node. Written by wip/gen/made.py. -/
import Derived.Test.YtnmflokhnaiiiaaGreatDoorPkGA
set_option maxRecDepth 100000
set_option maxHeartbeats 1000000
namespace Go.Proofs.YtnmflokhnaiiiaaGreatDoor
open Go.RowKit
def made5 (op:Int)(l:Nat)(rule:Int)(R:Nat)(z:Bool):Bool:=
 decide (0<=op)&&decide (op<=9)&&(if op<=2 then l == 0 else if op<=4 then decide (2<=l) else l == 1)&&(if op=2 then decide (0<=rule)&&decide (rule<R) else rule == 0)&&(op == 1 || z)
theorem zsa (n:PN)(R:Nat):madeB n R=made5 n.op n.kids.length n.rule R (n.s0 == 0&&n.s1 == 0&&n.s2 == 0&&n.s3 == 0):=rfl
theorem zxk (x0 x1 x2 x3:Int):(x0 == 0&&x1 == 0&&x2 == 0&&x3 == 0)=(x0 == 0&&(x1 == 0&&(x2 == 0&&x3 == 0))):=by
 rw[Bool.and_assoc,Bool.and_assoc]
theorem zog {op:Int}{l:Nat}{rule:Int}{R:Nat}{z:Bool}(h:op<0):made5 op l rule R z=false:=by
 unfold made5;rw[decide_eq_false (by omega:¬0<=op)];rfl
theorem zla {op:Int}{l:Nat}{rule:Int}{R:Nat}{z:Bool}(h:9<op):made5 op l rule R z=false:=by
 unfold made5;rw[decide_eq_false (by omega:¬op<=9),Bool.and_false];rfl
theorem zbm {op:Int}{l:Nat}{rule:Int}{R:Nat}(h:op≠1):made5 op l rule R false=false:=by
 unfold made5;rw[zae h];simp
theorem zar {op:Int}{l:Nat}{rule:Int}{R:Nat}{z:Bool}(h:op≠2)(h2:rule≠0):made5 op l rule R z=false:=by
 unfold made5;rw[if_neg h,zae h2];simp
theorem zdh {l:Nat}{rule:Int}{R:Nat}{z:Bool}(h:rule<0∨(R:Int)<=rule):made5 2 l rule R z=false:=by
 have:(decide (0<=rule)&&decide (rule<(R:Int)))=false:=by
  rcases h with h|h
  ·rw[decide_eq_false (by omega:¬0<=rule)];rfl
  ·rw[decide_eq_false (by omega:¬rule<R),Bool.and_false]
 unfold made5;rw[if_pos rfl,this];simp
theorem za4 {op:Int}{l:Nat}{rule:Int}{R:Nat}{z:Bool}(h:op<=2)(h2:l≠0):made5 op l rule R z=false:=by
 have:(l == 0)=false:=by simpa using h2
 unfold made5;rw[if_pos h,this];simp
theorem zbr {op:Int}{l:Nat}{rule:Int}{R:Nat}{z:Bool}(h:op=3∨op=4)(h2:l<2):made5 op l rule R z=false:=by
 unfold made5;rw[if_neg (by omega),if_pos (by omega),decide_eq_false (by omega:¬2<=l)];simp
theorem zau {op:Int}{l:Nat}{rule:Int}{R:Nat}{z:Bool}(h:5<=op)(h2:l≠1):made5 op l rule R z=false:=by
 have:(l == 1)=false:=by simpa using h2
 unfold made5;rw[if_neg (by omega),if_neg (by omega),this];simp
theorem zbb {op:Int}{l:Nat}{rule:Int}{R:Nat}{z:Bool}(h0:0<=op)(h9:op<=9)(hl:(op<=2->l=0)/\(2<op->op<=4->2<=l)/\(4<op->l=1))(hr:(op=2->0<=rule/\rule<R)/\(op≠2->rule=0))(hz:op=1∨z=true):made5 op l rule R z=true:=by
 unfold made5;have e1:(if op<=2 then l == 0 else if op<=4 then decide (2<=l) else l == 1)=true:=by
  by_cases a:op<=2
  ·rw[if_pos a];simpa using hl.1 a
  ·rw[if_neg a]
   by_cases b:op<=4
   ·rw[if_pos b];simpa using hl.2.1 (by omega) b
   ·rw[if_neg b];simpa using hl.2.2 (by omega)
 have e2:(if op=2 then decide (0<=rule)&&decide (rule<(R:Int)) else rule == 0)=true:=by
  by_cases a:op=2
  ·rw[if_pos a];simpa using hr.1 a
  ·rw[if_neg a];simpa using hr.2 a
 have e3:(op == 1 || z)=true:=by
  rcases hz with h|h
  ·subst h;rfl
  ·rw[h,Bool.or_true]
 rw[decide_eq_true h0,decide_eq_true h9,e1,e2,e3];rfl
def z4 (x0 x1 x2 x3:Int):Bool:=x0 == 0&&(x1 == 0&&(x2 == 0&&x3 == 0))
def PmIs (F:FuncId)(op:Int)(l:Nat)(rule x0 x1 x2 x3:Int)(R:Nat)(b:Bool):Prop:=
 ∀(ka:Option Addr) (kc:Nat) (w:World),l<=9223372036854775807->Calls Tryz.prog F #[.agg #[.int .i64 op,.slice ka l kc,.int .i64 rule,.int .u64 x0,.int .u64 x1,.int .u64 x2,.int .u64 x3],.int .i64 (R:Int)] w fun e w'=>e=.returned (.bool b)/\Below w.heap.size w w'
theorem sne {x0 x1 x2 x3:Int}{b:Bool}(hz:z4 x0 x1 x2 x3=b):Hid (∀w,(binOp .neq 71 (.agg #[.int .u64 x0,.int .u64 x1,.int .u64 x2,.int .u64 x3]) (.agg #[.int .u64 0,.int .u64 0,.int .u64 0,.int .u64 0])).run Tryz.prog w=.ok (.bool (!b)) w):=Lib.hid fun w=>by
 unfold z4 at hz;rw[zl1,hz]
theorem seq {x0 x1 x2 x3:Int}{b:Bool}(hz:z4 x0 x1 x2 x3=b):Hid (∀w,(binOp .eql 71 (.agg #[.int .u64 x0,.int .u64 x1,.int .u64 x2,.int .u64 x3]) (.agg #[.int .u64 0,.int .u64 0,.int .u64 0,.int .u64 0])).run Tryz.prog w=.ok (.bool b) w):=Lib.hid fun w=>by
 unfold z4 at hz;rw[zzx,hz]
section
variable {l:Nat} {rule x0 x1 x2 x3:Int} {R:Nat}
set_option maxHeartbeats 1000000
set_option maxRecDepth 100000
theorem z00 {op:Int}(hop:op<0)(hz:z4 x0 x1 x2 x3=false):PmIs 88 op l rule x0 x1 x2 x3 R false:=by
 intro ka kc w _;have HS:=sne hz;clear hz;have q0:(op == 0)=false:=zae (by omega);have q1:(op == 1)=false:=zae (by omega);have q2:(op == 2)=false:=zae (by omega);have q3:(op == 3)=false:=zae (by omega);have q4:(op == 4)=false:=zae (by omega);have q5:(op == 5)=false:=zae (by omega);have q6:(op == 6)=false:=zae (by omega);have q7:(op == 7)=false:=zae (by omega);have q8:(op == 8)=false:=zae (by omega);have q9:(op == 9)=false:=zae (by omega);have n1:(op != 1)=true:=zah (by omega);have n2:(op != 2)=true:=zah (by omega);clear hop;go_enter Tryz.func88,Tryz.ntmps88
 go_wp2_with (with_reducible refine zaf BinOp.neq 71 _ _ _ rfl rfl _ _ rfl rfl zal _ (HS.out _) ?_)
 go_ret;exact⟨rfl,zaa _ _⟩
theorem z01 {op:Int}(hop:op<0)(hz:z4 x0 x1 x2 x3=true)(hr:(rule != 0)=true):PmIs 88 op l rule x0 x1 x2 x3 R false:=by
 intro ka kc w _;have HS:=sne hz;clear hz;have q0:(op == 0)=false:=zae (by omega);have q1:(op == 1)=false:=zae (by omega);have q2:(op == 2)=false:=zae (by omega);have q3:(op == 3)=false:=zae (by omega);have q4:(op == 4)=false:=zae (by omega);have q5:(op == 5)=false:=zae (by omega);have q6:(op == 6)=false:=zae (by omega);have q7:(op == 7)=false:=zae (by omega);have q8:(op == 8)=false:=zae (by omega);have q9:(op == 9)=false:=zae (by omega);have n1:(op != 1)=true:=zah (by omega);have n2:(op != 2)=true:=zah (by omega);clear hop;go_enter Tryz.func88,Tryz.ntmps88
 go_wp2_with (with_reducible refine zaf BinOp.neq 71 _ _ _ rfl rfl _ _ rfl rfl zal _ (HS.out _) ?_)
 go_ret;exact⟨rfl,zaa _ _⟩
theorem z02 {op:Int}(hop:op<0)(hz:z4 x0 x1 x2 x3=true)(hr:(rule != 0)=false):PmIs 88 op l rule x0 x1 x2 x3 R false:=by
 intro ka kc w _;have HS:=sne hz;clear hz;have q0:(op == 0)=false:=zae (by omega);have q1:(op == 1)=false:=zae (by omega);have q2:(op == 2)=false:=zae (by omega);have q3:(op == 3)=false:=zae (by omega);have q4:(op == 4)=false:=zae (by omega);have q5:(op == 5)=false:=zae (by omega);have q6:(op == 6)=false:=zae (by omega);have q7:(op == 7)=false:=zae (by omega);have q8:(op == 8)=false:=zae (by omega);have q9:(op == 9)=false:=zae (by omega);have n1:(op != 1)=true:=zah (by omega);have n2:(op != 2)=true:=zah (by omega);clear hop;go_enter Tryz.func88,Tryz.ntmps88
 go_wp2_with (with_reducible refine zaf BinOp.neq 71 _ _ _ rfl rfl _ _ rfl rfl zal _ (HS.out _) ?_)
 go_ret;exact⟨rfl,zaa _ _⟩
theorem zxl {op:Int}(hop:9<op)(hz:z4 x0 x1 x2 x3=false):PmIs 88 op l rule x0 x1 x2 x3 R false:=by
 intro ka kc w _;have HS:=sne hz;clear hz;have q0:(op == 0)=false:=zae (by omega);have q1:(op == 1)=false:=zae (by omega);have q2:(op == 2)=false:=zae (by omega);have q3:(op == 3)=false:=zae (by omega);have q4:(op == 4)=false:=zae (by omega);have q5:(op == 5)=false:=zae (by omega);have q6:(op == 6)=false:=zae (by omega);have q7:(op == 7)=false:=zae (by omega);have q8:(op == 8)=false:=zae (by omega);have q9:(op == 9)=false:=zae (by omega);have n1:(op != 1)=true:=zah (by omega);have n2:(op != 2)=true:=zah (by omega);clear hop;go_enter Tryz.func88,Tryz.ntmps88
 go_wp2_with (with_reducible refine zaf BinOp.neq 71 _ _ _ rfl rfl _ _ rfl rfl zal _ (HS.out _) ?_)
 go_ret;exact⟨rfl,zaa _ _⟩
theorem zxm {op:Int}(hop:9<op)(hz:z4 x0 x1 x2 x3=true)(hr:(rule != 0)=true):PmIs 88 op l rule x0 x1 x2 x3 R false:=by
 intro ka kc w _;have HS:=sne hz;clear hz;have q0:(op == 0)=false:=zae (by omega);have q1:(op == 1)=false:=zae (by omega);have q2:(op == 2)=false:=zae (by omega);have q3:(op == 3)=false:=zae (by omega);have q4:(op == 4)=false:=zae (by omega);have q5:(op == 5)=false:=zae (by omega);have q6:(op == 6)=false:=zae (by omega);have q7:(op == 7)=false:=zae (by omega);have q8:(op == 8)=false:=zae (by omega);have q9:(op == 9)=false:=zae (by omega);have n1:(op != 1)=true:=zah (by omega);have n2:(op != 2)=true:=zah (by omega);clear hop;go_enter Tryz.func88,Tryz.ntmps88
 go_wp2_with (with_reducible refine zaf BinOp.neq 71 _ _ _ rfl rfl _ _ rfl rfl zal _ (HS.out _) ?_)
 go_ret;exact⟨rfl,zaa _ _⟩
theorem zxn {op:Int}(hop:9<op)(hz:z4 x0 x1 x2 x3=true)(hr:(rule != 0)=false):PmIs 88 op l rule x0 x1 x2 x3 R false:=by
 intro ka kc w _;have HS:=sne hz;clear hz;have q0:(op == 0)=false:=zae (by omega);have q1:(op == 1)=false:=zae (by omega);have q2:(op == 2)=false:=zae (by omega);have q3:(op == 3)=false:=zae (by omega);have q4:(op == 4)=false:=zae (by omega);have q5:(op == 5)=false:=zae (by omega);have q6:(op == 6)=false:=zae (by omega);have q7:(op == 7)=false:=zae (by omega);have q8:(op == 8)=false:=zae (by omega);have q9:(op == 9)=false:=zae (by omega);have n1:(op != 1)=true:=zah (by omega);have n2:(op != 2)=true:=zah (by omega);clear hop;go_enter Tryz.func88,Tryz.ntmps88
 go_wp2_with (with_reducible refine zaf BinOp.neq 71 _ _ _ rfl rfl _ _ rfl rfl zal _ (HS.out _) ?_)
 go_ret;exact⟨rfl,zaa _ _⟩
theorem z62 (hz:z4 x0 x1 x2 x3=false):PmIs 88 0 l rule x0 x1 x2 x3 R false:=by
 intro ka kc w _;have HS:=sne hz;clear hz;go_enter Tryz.func88,Tryz.ntmps88
 go_wp2_with (with_reducible refine zaf BinOp.neq 71 _ _ _ rfl rfl _ _ rfl rfl zal _ (HS.out _) ?_)
 go_ret;exact⟨rfl,zaa _ _⟩
theorem z63 (hz:z4 x0 x1 x2 x3=true)(hr:(rule != 0)=true):PmIs 88 0 l rule x0 x1 x2 x3 R false:=by
 intro ka kc w _;have HS:=sne hz;clear hz;go_enter Tryz.func88,Tryz.ntmps88
 go_wp2_with (with_reducible refine zaf BinOp.neq 71 _ _ _ rfl rfl _ _ rfl rfl zal _ (HS.out _) ?_)
 go_ret;exact⟨rfl,zaa _ _⟩
theorem z64 (hz:z4 x0 x1 x2 x3=true)(k0:l=0)(hr:(rule != 0)=false):PmIs 88 0 l rule x0 x1 x2 x3 R true:=by
 intro ka kc w _;have HS:=sne hz;clear hz;subst k0;go_enter Tryz.func88,Tryz.ntmps88
 go_wp2_with (with_reducible refine zaf BinOp.neq 71 _ _ _ rfl rfl _ _ rfl rfl zal _ (HS.out _) ?_)
 go_ret;exact⟨rfl,zaa _ _⟩
theorem z65 (hz:z4 x0 x1 x2 x3=true)(k1:l=1)(hr:(rule != 0)=false):PmIs 88 0 l rule x0 x1 x2 x3 R false:=by
 intro ka kc w _;have HS:=sne hz;clear hz;subst k1;go_enter Tryz.func88,Tryz.ntmps88
 go_wp2_with (with_reducible refine zaf BinOp.neq 71 _ _ _ rfl rfl _ _ rfl rfl zal _ (HS.out _) ?_)
 go_ret;exact⟨rfl,zaa _ _⟩
theorem z66 (hz:z4 x0 x1 x2 x3=true)(k2:2<=l)(hr:(rule != 0)=false):PmIs 88 0 l rule x0 x1 x2 x3 R false:=by
 intro ka kc w _;have HS:=sne hz;clear hz;have m0:((l:Int) != 0)=true:=zah (by omega);have m1:((l:Int) != 1)=true:=zah (by omega);have m2:((l:Int) == 0)=false:=zae (by omega);have m3:((l:Int) == 1)=false:=zae (by omega);have m4:¬(l:Int)<2:=(by omega);have m5:(2:Int)<=(l:Int):=by omega
 go_enter Tryz.func88,Tryz.ntmps88
 go_wp2_with (with_reducible refine zaf BinOp.neq 71 _ _ _ rfl rfl _ _ rfl rfl zal _ (HS.out _) ?_)
 go_ret;exact⟨rfl,zaa _ _⟩
theorem z2l (hr:(rule != 0)=true):PmIs 88 1 l rule x0 x1 x2 x3 R false:=by
 intro ka kc w _;go_enter Tryz.func88,Tryz.ntmps88;go_wp2;go_ret;exact⟨rfl,zaa _ _⟩
theorem z2m (k0:l=0)(hr:(rule != 0)=false):PmIs 88 1 l rule x0 x1 x2 x3 R true:=by
 intro ka kc w _;subst k0;go_enter Tryz.func88,Tryz.ntmps88;go_wp2;go_ret;exact⟨rfl,zaa _ _⟩
theorem z2n (k1:l=1)(hr:(rule != 0)=false):PmIs 88 1 l rule x0 x1 x2 x3 R false:=by
 intro ka kc w _;subst k1;go_enter Tryz.func88,Tryz.ntmps88;go_wp2;go_ret;exact⟨rfl,zaa _ _⟩
theorem z2o (k2:2<=l)(hr:(rule != 0)=false):PmIs 88 1 l rule x0 x1 x2 x3 R false:=by
 intro ka kc w _;have m0:((l:Int) != 0)=true:=zah (by omega);have m1:((l:Int) != 1)=true:=zah (by omega);have m2:((l:Int) == 0)=false:=zae (by omega);have m3:((l:Int) == 1)=false:=zae (by omega);have m4:¬(l:Int)<2:=(by omega);have m5:(2:Int)<=(l:Int):=by omega
 go_enter Tryz.func88,Tryz.ntmps88;go_wp2;go_ret;exact⟨rfl,zaa _ _⟩
theorem z67 (hz:z4 x0 x1 x2 x3=false):PmIs 88 2 l rule x0 x1 x2 x3 R false:=by
 intro ka kc w _;have HS:=sne hz;clear hz;go_enter Tryz.func88,Tryz.ntmps88
 go_wp2_with (with_reducible refine zaf BinOp.neq 71 _ _ _ rfl rfl _ _ rfl rfl zal _ (HS.out _) ?_)
 go_ret;exact⟨rfl,zaa _ _⟩
theorem z45 (hz:z4 x0 x1 x2 x3=true)(k0:l=0)(hr:¬0<=rule):PmIs 88 2 l rule x0 x1 x2 x3 R false:=by
 intro ka kc w _;have HS:=sne hz;clear hz;subst k0;go_enter Tryz.func88,Tryz.ntmps88
 go_wp2_with (with_reducible refine zaf BinOp.neq 71 _ _ _ rfl rfl _ _ rfl rfl zal _ (HS.out _) ?_)
 go_ret;exact⟨rfl,zaa _ _⟩
theorem z47 (hz:z4 x0 x1 x2 x3=true)(k0:l=0)(hr:0<=rule)(hR:¬rule<(R:Int)):PmIs 88 2 l rule x0 x1 x2 x3 R false:=by
 intro ka kc w _;have HS:=sne hz;clear hz;subst k0;go_enter Tryz.func88,Tryz.ntmps88
 go_wp2_with (with_reducible refine zaf BinOp.neq 71 _ _ _ rfl rfl _ _ rfl rfl zal _ (HS.out _) ?_)
 go_ret;exact⟨rfl,zaa _ _⟩
theorem z68 (hz:z4 x0 x1 x2 x3=true)(k0:l=0)(hr:0<=rule)(hR:rule<(R:Int)):PmIs 88 2 l rule x0 x1 x2 x3 R true:=by
 intro ka kc w _;have HS:=sne hz;clear hz;subst k0;go_enter Tryz.func88,Tryz.ntmps88
 go_wp2_with (with_reducible refine zaf BinOp.neq 71 _ _ _ rfl rfl _ _ rfl rfl zal _ (HS.out _) ?_)
 go_ret;exact⟨rfl,zaa _ _⟩
theorem z69 (hz:z4 x0 x1 x2 x3=true)(k1:l=1):PmIs 88 2 l rule x0 x1 x2 x3 R false:=by
 intro ka kc w _;have HS:=sne hz;clear hz;subst k1;go_enter Tryz.func88,Tryz.ntmps88
 go_wp2_with (with_reducible refine zaf BinOp.neq 71 _ _ _ rfl rfl _ _ rfl rfl zal _ (HS.out _) ?_)
 go_ret;exact⟨rfl,zaa _ _⟩
theorem z7a (hz:z4 x0 x1 x2 x3=true)(k2:2<=l):PmIs 88 2 l rule x0 x1 x2 x3 R false:=by
 intro ka kc w _;have HS:=sne hz;clear hz;have m0:((l:Int) != 0)=true:=zah (by omega);have m1:((l:Int) != 1)=true:=zah (by omega);have m2:((l:Int) == 0)=false:=zae (by omega);have m3:((l:Int) == 1)=false:=zae (by omega);have m4:¬(l:Int)<2:=(by omega);have m5:(2:Int)<=(l:Int):=by omega
 go_enter Tryz.func88,Tryz.ntmps88
 go_wp2_with (with_reducible refine zaf BinOp.neq 71 _ _ _ rfl rfl _ _ rfl rfl zal _ (HS.out _) ?_)
 go_ret;exact⟨rfl,zaa _ _⟩
theorem z7b (hz:z4 x0 x1 x2 x3=false):PmIs 88 3 l rule x0 x1 x2 x3 R false:=by
 intro ka kc w _;have HS:=sne hz;clear hz;go_enter Tryz.func88,Tryz.ntmps88
 go_wp2_with (with_reducible refine zaf BinOp.neq 71 _ _ _ rfl rfl _ _ rfl rfl zal _ (HS.out _) ?_)
 go_ret;exact⟨rfl,zaa _ _⟩
theorem z7c (hz:z4 x0 x1 x2 x3=true)(hr:(rule != 0)=true):PmIs 88 3 l rule x0 x1 x2 x3 R false:=by
 intro ka kc w _;have HS:=sne hz;clear hz;go_enter Tryz.func88,Tryz.ntmps88
 go_wp2_with (with_reducible refine zaf BinOp.neq 71 _ _ _ rfl rfl _ _ rfl rfl zal _ (HS.out _) ?_)
 go_ret;exact⟨rfl,zaa _ _⟩
theorem z7d (hz:z4 x0 x1 x2 x3=true)(k0:l=0)(hr:(rule != 0)=false):PmIs 88 3 l rule x0 x1 x2 x3 R false:=by
 intro ka kc w _;have HS:=sne hz;clear hz;subst k0;go_enter Tryz.func88,Tryz.ntmps88
 go_wp2_with (with_reducible refine zaf BinOp.neq 71 _ _ _ rfl rfl _ _ rfl rfl zal _ (HS.out _) ?_)
 go_ret;exact⟨rfl,zaa _ _⟩
theorem z7e (hz:z4 x0 x1 x2 x3=true)(k1:l=1)(hr:(rule != 0)=false):PmIs 88 3 l rule x0 x1 x2 x3 R false:=by
 intro ka kc w _;have HS:=sne hz;clear hz;subst k1;go_enter Tryz.func88,Tryz.ntmps88
 go_wp2_with (with_reducible refine zaf BinOp.neq 71 _ _ _ rfl rfl _ _ rfl rfl zal _ (HS.out _) ?_)
 go_ret;exact⟨rfl,zaa _ _⟩
theorem z7f (hz:z4 x0 x1 x2 x3=true)(k2:2<=l)(hr:(rule != 0)=false):PmIs 88 3 l rule x0 x1 x2 x3 R true:=by
 intro ka kc w _;have HS:=sne hz;clear hz;have m0:((l:Int) != 0)=true:=zah (by omega);have m1:((l:Int) != 1)=true:=zah (by omega);have m2:((l:Int) == 0)=false:=zae (by omega);have m3:((l:Int) == 1)=false:=zae (by omega);have m4:¬(l:Int)<2:=(by omega);have m5:(2:Int)<=(l:Int):=by omega
 go_enter Tryz.func88,Tryz.ntmps88
 go_wp2_with (with_reducible refine zaf BinOp.neq 71 _ _ _ rfl rfl _ _ rfl rfl zal _ (HS.out _) ?_)
 go_ret;exact⟨rfl,zaa _ _⟩
theorem z7g (hz:z4 x0 x1 x2 x3=false):PmIs 88 4 l rule x0 x1 x2 x3 R false:=by
 intro ka kc w _;have HS:=sne hz;clear hz;go_enter Tryz.func88,Tryz.ntmps88
 go_wp2_with (with_reducible refine zaf BinOp.neq 71 _ _ _ rfl rfl _ _ rfl rfl zal _ (HS.out _) ?_)
 go_ret;exact⟨rfl,zaa _ _⟩
theorem z7h (hz:z4 x0 x1 x2 x3=true)(hr:(rule != 0)=true):PmIs 88 4 l rule x0 x1 x2 x3 R false:=by
 intro ka kc w _;have HS:=sne hz;clear hz;go_enter Tryz.func88,Tryz.ntmps88
 go_wp2_with (with_reducible refine zaf BinOp.neq 71 _ _ _ rfl rfl _ _ rfl rfl zal _ (HS.out _) ?_)
 go_ret;exact⟨rfl,zaa _ _⟩
theorem z7i (hz:z4 x0 x1 x2 x3=true)(k0:l=0)(hr:(rule != 0)=false):PmIs 88 4 l rule x0 x1 x2 x3 R false:=by
 intro ka kc w _;have HS:=sne hz;clear hz;subst k0;go_enter Tryz.func88,Tryz.ntmps88
 go_wp2_with (with_reducible refine zaf BinOp.neq 71 _ _ _ rfl rfl _ _ rfl rfl zal _ (HS.out _) ?_)
 go_ret;exact⟨rfl,zaa _ _⟩
theorem z7j (hz:z4 x0 x1 x2 x3=true)(k1:l=1)(hr:(rule != 0)=false):PmIs 88 4 l rule x0 x1 x2 x3 R false:=by
 intro ka kc w _;have HS:=sne hz;clear hz;subst k1;go_enter Tryz.func88,Tryz.ntmps88
 go_wp2_with (with_reducible refine zaf BinOp.neq 71 _ _ _ rfl rfl _ _ rfl rfl zal _ (HS.out _) ?_)
 go_ret;exact⟨rfl,zaa _ _⟩
theorem z7k (hz:z4 x0 x1 x2 x3=true)(k2:2<=l)(hr:(rule != 0)=false):PmIs 88 4 l rule x0 x1 x2 x3 R true:=by
 intro ka kc w _;have HS:=sne hz;clear hz;have m0:((l:Int) != 0)=true:=zah (by omega);have m1:((l:Int) != 1)=true:=zah (by omega);have m2:((l:Int) == 0)=false:=zae (by omega);have m3:((l:Int) == 1)=false:=zae (by omega);have m4:¬(l:Int)<2:=(by omega);have m5:(2:Int)<=(l:Int):=by omega
 go_enter Tryz.func88,Tryz.ntmps88
 go_wp2_with (with_reducible refine zaf BinOp.neq 71 _ _ _ rfl rfl _ _ rfl rfl zal _ (HS.out _) ?_)
 go_ret;exact⟨rfl,zaa _ _⟩
theorem z7l (hz:z4 x0 x1 x2 x3=false):PmIs 88 5 l rule x0 x1 x2 x3 R false:=by
 intro ka kc w _;have HS:=sne hz;clear hz;go_enter Tryz.func88,Tryz.ntmps88
 go_wp2_with (with_reducible refine zaf BinOp.neq 71 _ _ _ rfl rfl _ _ rfl rfl zal _ (HS.out _) ?_)
 go_ret;exact⟨rfl,zaa _ _⟩
theorem z7m (hz:z4 x0 x1 x2 x3=true)(hr:(rule != 0)=true):PmIs 88 5 l rule x0 x1 x2 x3 R false:=by
 intro ka kc w _;have HS:=sne hz;clear hz;go_enter Tryz.func88,Tryz.ntmps88
 go_wp2_with (with_reducible refine zaf BinOp.neq 71 _ _ _ rfl rfl _ _ rfl rfl zal _ (HS.out _) ?_)
 go_ret;exact⟨rfl,zaa _ _⟩
theorem z7n (hz:z4 x0 x1 x2 x3=true)(k0:l=0)(hr:(rule != 0)=false):PmIs 88 5 l rule x0 x1 x2 x3 R false:=by
 intro ka kc w _;have HS:=sne hz;clear hz;subst k0;go_enter Tryz.func88,Tryz.ntmps88
 go_wp2_with (with_reducible refine zaf BinOp.neq 71 _ _ _ rfl rfl _ _ rfl rfl zal _ (HS.out _) ?_)
 go_ret;exact⟨rfl,zaa _ _⟩
theorem z7o (hz:z4 x0 x1 x2 x3=true)(k1:l=1)(hr:(rule != 0)=false):PmIs 88 5 l rule x0 x1 x2 x3 R true:=by
 intro ka kc w _;have HS:=sne hz;clear hz;subst k1;go_enter Tryz.func88,Tryz.ntmps88
 go_wp2_with (with_reducible refine zaf BinOp.neq 71 _ _ _ rfl rfl _ _ rfl rfl zal _ (HS.out _) ?_)
 go_ret;exact⟨rfl,zaa _ _⟩
theorem z7p (hz:z4 x0 x1 x2 x3=true)(k2:2<=l)(hr:(rule != 0)=false):PmIs 88 5 l rule x0 x1 x2 x3 R false:=by
 intro ka kc w _;have HS:=sne hz;clear hz;have m0:((l:Int) != 0)=true:=zah (by omega);have m1:((l:Int) != 1)=true:=zah (by omega);have m2:((l:Int) == 0)=false:=zae (by omega);have m3:((l:Int) == 1)=false:=zae (by omega);have m4:¬(l:Int)<2:=(by omega);have m5:(2:Int)<=(l:Int):=by omega
 go_enter Tryz.func88,Tryz.ntmps88
 go_wp2_with (with_reducible refine zaf BinOp.neq 71 _ _ _ rfl rfl _ _ rfl rfl zal _ (HS.out _) ?_)
 go_ret;exact⟨rfl,zaa _ _⟩
theorem z7q (hz:z4 x0 x1 x2 x3=false):PmIs 88 6 l rule x0 x1 x2 x3 R false:=by
 intro ka kc w _;have HS:=sne hz;clear hz;go_enter Tryz.func88,Tryz.ntmps88
 go_wp2_with (with_reducible refine zaf BinOp.neq 71 _ _ _ rfl rfl _ _ rfl rfl zal _ (HS.out _) ?_)
 go_ret;exact⟨rfl,zaa _ _⟩
theorem z7r (hz:z4 x0 x1 x2 x3=true)(hr:(rule != 0)=true):PmIs 88 6 l rule x0 x1 x2 x3 R false:=by
 intro ka kc w _;have HS:=sne hz;clear hz;go_enter Tryz.func88,Tryz.ntmps88
 go_wp2_with (with_reducible refine zaf BinOp.neq 71 _ _ _ rfl rfl _ _ rfl rfl zal _ (HS.out _) ?_)
 go_ret;exact⟨rfl,zaa _ _⟩
theorem z7s (hz:z4 x0 x1 x2 x3=true)(k0:l=0)(hr:(rule != 0)=false):PmIs 88 6 l rule x0 x1 x2 x3 R false:=by
 intro ka kc w _;have HS:=sne hz;clear hz;subst k0;go_enter Tryz.func88,Tryz.ntmps88
 go_wp2_with (with_reducible refine zaf BinOp.neq 71 _ _ _ rfl rfl _ _ rfl rfl zal _ (HS.out _) ?_)
 go_ret;exact⟨rfl,zaa _ _⟩
theorem z7t (hz:z4 x0 x1 x2 x3=true)(k1:l=1)(hr:(rule != 0)=false):PmIs 88 6 l rule x0 x1 x2 x3 R true:=by
 intro ka kc w _;have HS:=sne hz;clear hz;subst k1;go_enter Tryz.func88,Tryz.ntmps88
 go_wp2_with (with_reducible refine zaf BinOp.neq 71 _ _ _ rfl rfl _ _ rfl rfl zal _ (HS.out _) ?_)
 go_ret;exact⟨rfl,zaa _ _⟩
theorem z7u (hz:z4 x0 x1 x2 x3=true)(k2:2<=l)(hr:(rule != 0)=false):PmIs 88 6 l rule x0 x1 x2 x3 R false:=by
 intro ka kc w _;have HS:=sne hz;clear hz;have m0:((l:Int) != 0)=true:=zah (by omega);have m1:((l:Int) != 1)=true:=zah (by omega);have m2:((l:Int) == 0)=false:=zae (by omega);have m3:((l:Int) == 1)=false:=zae (by omega);have m4:¬(l:Int)<2:=(by omega);have m5:(2:Int)<=(l:Int):=by omega
 go_enter Tryz.func88,Tryz.ntmps88
 go_wp2_with (with_reducible refine zaf BinOp.neq 71 _ _ _ rfl rfl _ _ rfl rfl zal _ (HS.out _) ?_)
 go_ret;exact⟨rfl,zaa _ _⟩
theorem z7v (hz:z4 x0 x1 x2 x3=false):PmIs 88 7 l rule x0 x1 x2 x3 R false:=by
 intro ka kc w _;have HS:=sne hz;clear hz;go_enter Tryz.func88,Tryz.ntmps88
 go_wp2_with (with_reducible refine zaf BinOp.neq 71 _ _ _ rfl rfl _ _ rfl rfl zal _ (HS.out _) ?_)
 go_ret;exact⟨rfl,zaa _ _⟩
theorem z7w (hz:z4 x0 x1 x2 x3=true)(hr:(rule != 0)=true):PmIs 88 7 l rule x0 x1 x2 x3 R false:=by
 intro ka kc w _;have HS:=sne hz;clear hz;go_enter Tryz.func88,Tryz.ntmps88
 go_wp2_with (with_reducible refine zaf BinOp.neq 71 _ _ _ rfl rfl _ _ rfl rfl zal _ (HS.out _) ?_)
 go_ret;exact⟨rfl,zaa _ _⟩
theorem z7x (hz:z4 x0 x1 x2 x3=true)(k0:l=0)(hr:(rule != 0)=false):PmIs 88 7 l rule x0 x1 x2 x3 R false:=by
 intro ka kc w _;have HS:=sne hz;clear hz;subst k0;go_enter Tryz.func88,Tryz.ntmps88
 go_wp2_with (with_reducible refine zaf BinOp.neq 71 _ _ _ rfl rfl _ _ rfl rfl zal _ (HS.out _) ?_)
 go_ret;exact⟨rfl,zaa _ _⟩
theorem z7y (hz:z4 x0 x1 x2 x3=true)(k1:l=1)(hr:(rule != 0)=false):PmIs 88 7 l rule x0 x1 x2 x3 R true:=by
 intro ka kc w _;have HS:=sne hz;clear hz;subst k1;go_enter Tryz.func88,Tryz.ntmps88
 go_wp2_with (with_reducible refine zaf BinOp.neq 71 _ _ _ rfl rfl _ _ rfl rfl zal _ (HS.out _) ?_)
 go_ret;exact⟨rfl,zaa _ _⟩
theorem z7z (hz:z4 x0 x1 x2 x3=true)(k2:2<=l)(hr:(rule != 0)=false):PmIs 88 7 l rule x0 x1 x2 x3 R false:=by
 intro ka kc w _;have HS:=sne hz;clear hz;have m0:((l:Int) != 0)=true:=zah (by omega);have m1:((l:Int) != 1)=true:=zah (by omega);have m2:((l:Int) == 0)=false:=zae (by omega);have m3:((l:Int) == 1)=false:=zae (by omega);have m4:¬(l:Int)<2:=(by omega);have m5:(2:Int)<=(l:Int):=by omega
 go_enter Tryz.func88,Tryz.ntmps88
 go_wp2_with (with_reducible refine zaf BinOp.neq 71 _ _ _ rfl rfl _ _ rfl rfl zal _ (HS.out _) ?_)
 go_ret;exact⟨rfl,zaa _ _⟩
theorem z70 (hz:z4 x0 x1 x2 x3=false):PmIs 88 8 l rule x0 x1 x2 x3 R false:=by
 intro ka kc w _;have HS:=sne hz;clear hz;go_enter Tryz.func88,Tryz.ntmps88
 go_wp2_with (with_reducible refine zaf BinOp.neq 71 _ _ _ rfl rfl _ _ rfl rfl zal _ (HS.out _) ?_)
 go_ret;exact⟨rfl,zaa _ _⟩
theorem z71 (hz:z4 x0 x1 x2 x3=true)(hr:(rule != 0)=true):PmIs 88 8 l rule x0 x1 x2 x3 R false:=by
 intro ka kc w _;have HS:=sne hz;clear hz;go_enter Tryz.func88,Tryz.ntmps88
 go_wp2_with (with_reducible refine zaf BinOp.neq 71 _ _ _ rfl rfl _ _ rfl rfl zal _ (HS.out _) ?_)
 go_ret;exact⟨rfl,zaa _ _⟩
theorem z72 (hz:z4 x0 x1 x2 x3=true)(k0:l=0)(hr:(rule != 0)=false):PmIs 88 8 l rule x0 x1 x2 x3 R false:=by
 intro ka kc w _;have HS:=sne hz;clear hz;subst k0;go_enter Tryz.func88,Tryz.ntmps88
 go_wp2_with (with_reducible refine zaf BinOp.neq 71 _ _ _ rfl rfl _ _ rfl rfl zal _ (HS.out _) ?_)
 go_ret;exact⟨rfl,zaa _ _⟩
theorem z73 (hz:z4 x0 x1 x2 x3=true)(k1:l=1)(hr:(rule != 0)=false):PmIs 88 8 l rule x0 x1 x2 x3 R true:=by
 intro ka kc w _;have HS:=sne hz;clear hz;subst k1;go_enter Tryz.func88,Tryz.ntmps88
 go_wp2_with (with_reducible refine zaf BinOp.neq 71 _ _ _ rfl rfl _ _ rfl rfl zal _ (HS.out _) ?_)
 go_ret;exact⟨rfl,zaa _ _⟩
theorem z74 (hz:z4 x0 x1 x2 x3=true)(k2:2<=l)(hr:(rule != 0)=false):PmIs 88 8 l rule x0 x1 x2 x3 R false:=by
 intro ka kc w _;have HS:=sne hz;clear hz;have m0:((l:Int) != 0)=true:=zah (by omega);have m1:((l:Int) != 1)=true:=zah (by omega);have m2:((l:Int) == 0)=false:=zae (by omega);have m3:((l:Int) == 1)=false:=zae (by omega);have m4:¬(l:Int)<2:=(by omega);have m5:(2:Int)<=(l:Int):=by omega
 go_enter Tryz.func88,Tryz.ntmps88
 go_wp2_with (with_reducible refine zaf BinOp.neq 71 _ _ _ rfl rfl _ _ rfl rfl zal _ (HS.out _) ?_)
 go_ret;exact⟨rfl,zaa _ _⟩
theorem z75 (hz:z4 x0 x1 x2 x3=false):PmIs 88 9 l rule x0 x1 x2 x3 R false:=by
 intro ka kc w _;have HS:=sne hz;clear hz;go_enter Tryz.func88,Tryz.ntmps88
 go_wp2_with (with_reducible refine zaf BinOp.neq 71 _ _ _ rfl rfl _ _ rfl rfl zal _ (HS.out _) ?_)
 go_ret;exact⟨rfl,zaa _ _⟩
theorem z76 (hz:z4 x0 x1 x2 x3=true)(hr:(rule != 0)=true):PmIs 88 9 l rule x0 x1 x2 x3 R false:=by
 intro ka kc w _;have HS:=sne hz;clear hz;go_enter Tryz.func88,Tryz.ntmps88
 go_wp2_with (with_reducible refine zaf BinOp.neq 71 _ _ _ rfl rfl _ _ rfl rfl zal _ (HS.out _) ?_)
 go_ret;exact⟨rfl,zaa _ _⟩
theorem z77 (hz:z4 x0 x1 x2 x3=true)(k0:l=0)(hr:(rule != 0)=false):PmIs 88 9 l rule x0 x1 x2 x3 R false:=by
 intro ka kc w _;have HS:=sne hz;clear hz;subst k0;go_enter Tryz.func88,Tryz.ntmps88
 go_wp2_with (with_reducible refine zaf BinOp.neq 71 _ _ _ rfl rfl _ _ rfl rfl zal _ (HS.out _) ?_)
 go_ret;exact⟨rfl,zaa _ _⟩
theorem z78 (hz:z4 x0 x1 x2 x3=true)(k1:l=1)(hr:(rule != 0)=false):PmIs 88 9 l rule x0 x1 x2 x3 R true:=by
 intro ka kc w _;have HS:=sne hz;clear hz;subst k1;go_enter Tryz.func88,Tryz.ntmps88
 go_wp2_with (with_reducible refine zaf BinOp.neq 71 _ _ _ rfl rfl _ _ rfl rfl zal _ (HS.out _) ?_)
 go_ret;exact⟨rfl,zaa _ _⟩
theorem z79 (hz:z4 x0 x1 x2 x3=true)(k2:2<=l)(hr:(rule != 0)=false):PmIs 88 9 l rule x0 x1 x2 x3 R false:=by
 intro ka kc w _;have HS:=sne hz;clear hz;have m0:((l:Int) != 0)=true:=zah (by omega);have m1:((l:Int) != 1)=true:=zah (by omega);have m2:((l:Int) == 0)=false:=zae (by omega);have m3:((l:Int) == 1)=false:=zae (by omega);have m4:¬(l:Int)<2:=(by omega);have m5:(2:Int)<=(l:Int):=by omega
 go_enter Tryz.func88,Tryz.ntmps88
 go_wp2_with (with_reducible refine zaf BinOp.neq 71 _ _ _ rfl rfl _ _ rfl rfl zal _ (HS.out _) ?_)
 go_ret;exact⟨rfl,zaa _ _⟩
theorem z8a {op:Int}(hop:op<0):PmIs 69 op l rule x0 x1 x2 x3 R false:=by
 intro ka kc w _;go_enter Tryz.func69,Tryz.ntmps69;go_wp2;go_ret;exact⟨rfl,zaa _ _⟩
theorem z48 {op:Int}(hop:9<op)(hop0:¬op<0):PmIs 69 op l rule x0 x1 x2 x3 R false:=by
 intro ka kc w _;go_enter Tryz.func69,Tryz.ntmps69;go_wp2;go_ret;exact⟨rfl,zaa _ _⟩
theorem zxo (k0:l=0)(hr:(rule != 0)=true):PmIs 69 0 l rule x0 x1 x2 x3 R false:=by
 intro ka kc w _;subst k0;go_enter Tryz.func69,Tryz.ntmps69;go_wp2;go_ret;exact⟨rfl,zaa _ _⟩
theorem z49 (k0:l=0)(hr:(rule != 0)=false)(hz:z4 x0 x1 x2 x3=false):PmIs 69 0 l rule x0 x1 x2 x3 R false:=by
 intro ka kc w _;have HS:=seq hz;clear hz;subst k0;go_enter Tryz.func69,Tryz.ntmps69
 go_wp2_with (with_reducible refine zaf BinOp.eql 71 _ _ _ rfl rfl _ _ rfl rfl zal _ (HS.out _) ?_)
 go_ret;exact⟨rfl,zaa _ _⟩
theorem z8b (k0:l=0)(hr:(rule != 0)=false)(hz:z4 x0 x1 x2 x3=true):PmIs 69 0 l rule x0 x1 x2 x3 R true:=by
 intro ka kc w _;have HS:=seq hz;clear hz;subst k0;go_enter Tryz.func69,Tryz.ntmps69
 go_wp2_with (with_reducible refine zaf BinOp.eql 71 _ _ _ rfl rfl _ _ rfl rfl zal _ (HS.out _) ?_)
 go_ret;exact⟨rfl,zaa _ _⟩
theorem z2p (k1:l=1):PmIs 69 0 l rule x0 x1 x2 x3 R false:=by
 intro ka kc w _;subst k1;go_enter Tryz.func69,Tryz.ntmps69;go_wp2;go_ret;exact⟨rfl,zaa _ _⟩
theorem z2q (k2:2<=l):PmIs 69 0 l rule x0 x1 x2 x3 R false:=by
 intro ka kc w _;have m0:((l:Int) != 0)=true:=zah (by omega);have m1:((l:Int) != 1)=true:=zah (by omega);have m2:((l:Int) == 0)=false:=zae (by omega);have m3:((l:Int) == 1)=false:=zae (by omega);have m4:¬(l:Int)<2:=(by omega);have m5:(2:Int)<=(l:Int):=by omega
 go_enter Tryz.func69,Tryz.ntmps69;go_wp2;go_ret;exact⟨rfl,zaa _ _⟩
theorem zxp (k0:l=0)(hr:(rule != 0)=true):PmIs 69 1 l rule x0 x1 x2 x3 R false:=by
 intro ka kc w _;subst k0;go_enter Tryz.func69,Tryz.ntmps69;go_wp2;go_ret;exact⟨rfl,zaa _ _⟩
theorem z2r (k0:l=0)(hr:(rule != 0)=false):PmIs 69 1 l rule x0 x1 x2 x3 R true:=by
 intro ka kc w _;subst k0;go_enter Tryz.func69,Tryz.ntmps69;go_wp2;go_ret;exact⟨rfl,zaa _ _⟩
theorem z2s (k1:l=1):PmIs 69 1 l rule x0 x1 x2 x3 R false:=by
 intro ka kc w _;subst k1;go_enter Tryz.func69,Tryz.ntmps69;go_wp2;go_ret;exact⟨rfl,zaa _ _⟩
theorem z2t (k2:2<=l):PmIs 69 1 l rule x0 x1 x2 x3 R false:=by
 intro ka kc w _;have m0:((l:Int) != 0)=true:=zah (by omega);have m1:((l:Int) != 1)=true:=zah (by omega);have m2:((l:Int) == 0)=false:=zae (by omega);have m3:((l:Int) == 1)=false:=zae (by omega);have m4:¬(l:Int)<2:=(by omega);have m5:(2:Int)<=(l:Int):=by omega
 go_enter Tryz.func69,Tryz.ntmps69;go_wp2;go_ret;exact⟨rfl,zaa _ _⟩
theorem zxq (k0:l=0)(hr:rule<0):PmIs 69 2 l rule x0 x1 x2 x3 R false:=by
 intro ka kc w _;subst k0;go_enter Tryz.func69,Tryz.ntmps69;go_wp2;go_ret;exact⟨rfl,zaa _ _⟩
theorem zxr (k0:l=0)(hr:¬rule<0)(hR:(R:Int)<=rule):PmIs 69 2 l rule x0 x1 x2 x3 R false:=by
 intro ka kc w _;subst k0;go_enter Tryz.func69,Tryz.ntmps69;go_wp2;go_ret;exact⟨rfl,zaa _ _⟩
theorem z5a (k0:l=0)(hr:¬rule<0)(hR:¬(R:Int)<=rule)(hz:z4 x0 x1 x2 x3=false):PmIs 69 2 l rule x0 x1 x2 x3 R false:=by
 intro ka kc w _;have HS:=seq hz;clear hz;subst k0;go_enter Tryz.func69,Tryz.ntmps69
 go_wp2_with (with_reducible refine zaf BinOp.eql 71 _ _ _ rfl rfl _ _ rfl rfl zal _ (HS.out _) ?_)
 go_ret;exact⟨rfl,zaa _ _⟩
theorem z8c (k0:l=0)(hr:¬rule<0)(hR:¬(R:Int)<=rule)(hz:z4 x0 x1 x2 x3=true):PmIs 69 2 l rule x0 x1 x2 x3 R true:=by
 intro ka kc w _;have HS:=seq hz;clear hz;subst k0;go_enter Tryz.func69,Tryz.ntmps69
 go_wp2_with (with_reducible refine zaf BinOp.eql 71 _ _ _ rfl rfl _ _ rfl rfl zal _ (HS.out _) ?_)
 go_ret;exact⟨rfl,zaa _ _⟩
theorem z2u (k1:l=1):PmIs 69 2 l rule x0 x1 x2 x3 R false:=by
 intro ka kc w _;subst k1;go_enter Tryz.func69,Tryz.ntmps69;go_wp2;go_ret;exact⟨rfl,zaa _ _⟩
theorem z2v (k2:2<=l):PmIs 69 2 l rule x0 x1 x2 x3 R false:=by
 intro ka kc w _;have m0:((l:Int) != 0)=true:=zah (by omega);have m1:((l:Int) != 1)=true:=zah (by omega);have m2:((l:Int) == 0)=false:=zae (by omega);have m3:((l:Int) == 1)=false:=zae (by omega);have m4:¬(l:Int)<2:=(by omega);have m5:(2:Int)<=(l:Int):=by omega
 go_enter Tryz.func69,Tryz.ntmps69;go_wp2;go_ret;exact⟨rfl,zaa _ _⟩
theorem z2w (k0:l=0):PmIs 69 3 l rule x0 x1 x2 x3 R false:=by
 intro ka kc w _;subst k0;go_enter Tryz.func69,Tryz.ntmps69;go_wp2;go_ret;exact⟨rfl,zaa _ _⟩
theorem z2x (k1:l=1):PmIs 69 3 l rule x0 x1 x2 x3 R false:=by
 intro ka kc w _;subst k1;go_enter Tryz.func69,Tryz.ntmps69;go_wp2;go_ret;exact⟨rfl,zaa _ _⟩
theorem zxs (k2:2<=l)(hr:(rule != 0)=true):PmIs 69 3 l rule x0 x1 x2 x3 R false:=by
 intro ka kc w _;have m0:((l:Int) != 0)=true:=zah (by omega);have m1:((l:Int) != 1)=true:=zah (by omega);have m2:((l:Int) == 0)=false:=zae (by omega);have m3:((l:Int) == 1)=false:=zae (by omega);have m4:¬(l:Int)<2:=(by omega);have m5:(2:Int)<=(l:Int):=by omega
 go_enter Tryz.func69,Tryz.ntmps69;go_wp2;go_ret;exact⟨rfl,zaa _ _⟩
theorem z5b (k2:2<=l)(hr:(rule != 0)=false)(hz:z4 x0 x1 x2 x3=false):PmIs 69 3 l rule x0 x1 x2 x3 R false:=by
 intro ka kc w _;have HS:=seq hz;clear hz;have m0:((l:Int) != 0)=true:=zah (by omega);have m1:((l:Int) != 1)=true:=zah (by omega);have m2:((l:Int) == 0)=false:=zae (by omega);have m3:((l:Int) == 1)=false:=zae (by omega);have m4:¬(l:Int)<2:=(by omega);have m5:(2:Int)<=(l:Int):=by omega
 go_enter Tryz.func69,Tryz.ntmps69
 go_wp2_with (with_reducible refine zaf BinOp.eql 71 _ _ _ rfl rfl _ _ rfl rfl zal _ (HS.out _) ?_)
 go_ret;exact⟨rfl,zaa _ _⟩
theorem z8d (k2:2<=l)(hr:(rule != 0)=false)(hz:z4 x0 x1 x2 x3=true):PmIs 69 3 l rule x0 x1 x2 x3 R true:=by
 intro ka kc w _;have HS:=seq hz;clear hz;have m0:((l:Int) != 0)=true:=zah (by omega);have m1:((l:Int) != 1)=true:=zah (by omega);have m2:((l:Int) == 0)=false:=zae (by omega);have m3:((l:Int) == 1)=false:=zae (by omega);have m4:¬(l:Int)<2:=(by omega);have m5:(2:Int)<=(l:Int):=by omega
 go_enter Tryz.func69,Tryz.ntmps69
 go_wp2_with (with_reducible refine zaf BinOp.eql 71 _ _ _ rfl rfl _ _ rfl rfl zal _ (HS.out _) ?_)
 go_ret;exact⟨rfl,zaa _ _⟩
theorem z2y (k0:l=0):PmIs 69 4 l rule x0 x1 x2 x3 R false:=by
 intro ka kc w _;subst k0;go_enter Tryz.func69,Tryz.ntmps69;go_wp2;go_ret;exact⟨rfl,zaa _ _⟩
theorem z2z (k1:l=1):PmIs 69 4 l rule x0 x1 x2 x3 R false:=by
 intro ka kc w _;subst k1;go_enter Tryz.func69,Tryz.ntmps69;go_wp2;go_ret;exact⟨rfl,zaa _ _⟩
theorem zxt (k2:2<=l)(hr:(rule != 0)=true):PmIs 69 4 l rule x0 x1 x2 x3 R false:=by
 intro ka kc w _;have m0:((l:Int) != 0)=true:=zah (by omega);have m1:((l:Int) != 1)=true:=zah (by omega);have m2:((l:Int) == 0)=false:=zae (by omega);have m3:((l:Int) == 1)=false:=zae (by omega);have m4:¬(l:Int)<2:=(by omega);have m5:(2:Int)<=(l:Int):=by omega
 go_enter Tryz.func69,Tryz.ntmps69;go_wp2;go_ret;exact⟨rfl,zaa _ _⟩
theorem z5c (k2:2<=l)(hr:(rule != 0)=false)(hz:z4 x0 x1 x2 x3=false):PmIs 69 4 l rule x0 x1 x2 x3 R false:=by
 intro ka kc w _;have HS:=seq hz;clear hz;have m0:((l:Int) != 0)=true:=zah (by omega);have m1:((l:Int) != 1)=true:=zah (by omega);have m2:((l:Int) == 0)=false:=zae (by omega);have m3:((l:Int) == 1)=false:=zae (by omega);have m4:¬(l:Int)<2:=(by omega);have m5:(2:Int)<=(l:Int):=by omega
 go_enter Tryz.func69,Tryz.ntmps69
 go_wp2_with (with_reducible refine zaf BinOp.eql 71 _ _ _ rfl rfl _ _ rfl rfl zal _ (HS.out _) ?_)
 go_ret;exact⟨rfl,zaa _ _⟩
theorem z8e (k2:2<=l)(hr:(rule != 0)=false)(hz:z4 x0 x1 x2 x3=true):PmIs 69 4 l rule x0 x1 x2 x3 R true:=by
 intro ka kc w _;have HS:=seq hz;clear hz;have m0:((l:Int) != 0)=true:=zah (by omega);have m1:((l:Int) != 1)=true:=zah (by omega);have m2:((l:Int) == 0)=false:=zae (by omega);have m3:((l:Int) == 1)=false:=zae (by omega);have m4:¬(l:Int)<2:=(by omega);have m5:(2:Int)<=(l:Int):=by omega
 go_enter Tryz.func69,Tryz.ntmps69
 go_wp2_with (with_reducible refine zaf BinOp.eql 71 _ _ _ rfl rfl _ _ rfl rfl zal _ (HS.out _) ?_)
 go_ret;exact⟨rfl,zaa _ _⟩
theorem z20 (k0:l=0):PmIs 69 5 l rule x0 x1 x2 x3 R false:=by
 intro ka kc w _;subst k0;go_enter Tryz.func69,Tryz.ntmps69;go_wp2;go_ret;exact⟨rfl,zaa _ _⟩
theorem zxu (k1:l=1)(hr:(rule != 0)=true):PmIs 69 5 l rule x0 x1 x2 x3 R false:=by
 intro ka kc w _;subst k1;go_enter Tryz.func69,Tryz.ntmps69;go_wp2;go_ret;exact⟨rfl,zaa _ _⟩
theorem z5d (k1:l=1)(hr:(rule != 0)=false)(hz:z4 x0 x1 x2 x3=false):PmIs 69 5 l rule x0 x1 x2 x3 R false:=by
 intro ka kc w _;have HS:=seq hz;clear hz;subst k1;go_enter Tryz.func69,Tryz.ntmps69
 go_wp2_with (with_reducible refine zaf BinOp.eql 71 _ _ _ rfl rfl _ _ rfl rfl zal _ (HS.out _) ?_)
 go_ret;exact⟨rfl,zaa _ _⟩
theorem z8f (k1:l=1)(hr:(rule != 0)=false)(hz:z4 x0 x1 x2 x3=true):PmIs 69 5 l rule x0 x1 x2 x3 R true:=by
 intro ka kc w _;have HS:=seq hz;clear hz;subst k1;go_enter Tryz.func69,Tryz.ntmps69
 go_wp2_with (with_reducible refine zaf BinOp.eql 71 _ _ _ rfl rfl _ _ rfl rfl zal _ (HS.out _) ?_)
 go_ret;exact⟨rfl,zaa _ _⟩
theorem z22 (k2:2<=l):PmIs 69 5 l rule x0 x1 x2 x3 R false:=by
 intro ka kc w _;have m0:((l:Int) != 0)=true:=zah (by omega);have m1:((l:Int) != 1)=true:=zah (by omega);have m2:((l:Int) == 0)=false:=zae (by omega);have m3:((l:Int) == 1)=false:=zae (by omega);have m4:¬(l:Int)<2:=(by omega);have m5:(2:Int)<=(l:Int):=by omega
 go_enter Tryz.func69,Tryz.ntmps69;go_wp2;go_ret;exact⟨rfl,zaa _ _⟩
theorem z23 (k0:l=0):PmIs 69 6 l rule x0 x1 x2 x3 R false:=by
 intro ka kc w _;subst k0;go_enter Tryz.func69,Tryz.ntmps69;go_wp2;go_ret;exact⟨rfl,zaa _ _⟩
theorem zxv (k1:l=1)(hr:(rule != 0)=true):PmIs 69 6 l rule x0 x1 x2 x3 R false:=by
 intro ka kc w _;subst k1;go_enter Tryz.func69,Tryz.ntmps69;go_wp2;go_ret;exact⟨rfl,zaa _ _⟩
theorem z5e (k1:l=1)(hr:(rule != 0)=false)(hz:z4 x0 x1 x2 x3=false):PmIs 69 6 l rule x0 x1 x2 x3 R false:=by
 intro ka kc w _;have HS:=seq hz;clear hz;subst k1;go_enter Tryz.func69,Tryz.ntmps69
 go_wp2_with (with_reducible refine zaf BinOp.eql 71 _ _ _ rfl rfl _ _ rfl rfl zal _ (HS.out _) ?_)
 go_ret;exact⟨rfl,zaa _ _⟩
theorem z8g (k1:l=1)(hr:(rule != 0)=false)(hz:z4 x0 x1 x2 x3=true):PmIs 69 6 l rule x0 x1 x2 x3 R true:=by
 intro ka kc w _;have HS:=seq hz;clear hz;subst k1;go_enter Tryz.func69,Tryz.ntmps69
 go_wp2_with (with_reducible refine zaf BinOp.eql 71 _ _ _ rfl rfl _ _ rfl rfl zal _ (HS.out _) ?_)
 go_ret;exact⟨rfl,zaa _ _⟩
theorem z24 (k2:2<=l):PmIs 69 6 l rule x0 x1 x2 x3 R false:=by
 intro ka kc w _;have m0:((l:Int) != 0)=true:=zah (by omega);have m1:((l:Int) != 1)=true:=zah (by omega);have m2:((l:Int) == 0)=false:=zae (by omega);have m3:((l:Int) == 1)=false:=zae (by omega);have m4:¬(l:Int)<2:=(by omega);have m5:(2:Int)<=(l:Int):=by omega
 go_enter Tryz.func69,Tryz.ntmps69;go_wp2;go_ret;exact⟨rfl,zaa _ _⟩
theorem z25 (k0:l=0):PmIs 69 7 l rule x0 x1 x2 x3 R false:=by
 intro ka kc w _;subst k0;go_enter Tryz.func69,Tryz.ntmps69;go_wp2;go_ret;exact⟨rfl,zaa _ _⟩
theorem zxw (k1:l=1)(hr:(rule != 0)=true):PmIs 69 7 l rule x0 x1 x2 x3 R false:=by
 intro ka kc w _;subst k1;go_enter Tryz.func69,Tryz.ntmps69;go_wp2;go_ret;exact⟨rfl,zaa _ _⟩
theorem z5f (k1:l=1)(hr:(rule != 0)=false)(hz:z4 x0 x1 x2 x3=false):PmIs 69 7 l rule x0 x1 x2 x3 R false:=by
 intro ka kc w _;have HS:=seq hz;clear hz;subst k1;go_enter Tryz.func69,Tryz.ntmps69
 go_wp2_with (with_reducible refine zaf BinOp.eql 71 _ _ _ rfl rfl _ _ rfl rfl zal _ (HS.out _) ?_)
 go_ret;exact⟨rfl,zaa _ _⟩
theorem z8h (k1:l=1)(hr:(rule != 0)=false)(hz:z4 x0 x1 x2 x3=true):PmIs 69 7 l rule x0 x1 x2 x3 R true:=by
 intro ka kc w _;have HS:=seq hz;clear hz;subst k1;go_enter Tryz.func69,Tryz.ntmps69
 go_wp2_with (with_reducible refine zaf BinOp.eql 71 _ _ _ rfl rfl _ _ rfl rfl zal _ (HS.out _) ?_)
 go_ret;exact⟨rfl,zaa _ _⟩
theorem z26 (k2:2<=l):PmIs 69 7 l rule x0 x1 x2 x3 R false:=by
 intro ka kc w _;have m0:((l:Int) != 0)=true:=zah (by omega);have m1:((l:Int) != 1)=true:=zah (by omega);have m2:((l:Int) == 0)=false:=zae (by omega);have m3:((l:Int) == 1)=false:=zae (by omega);have m4:¬(l:Int)<2:=(by omega);have m5:(2:Int)<=(l:Int):=by omega
 go_enter Tryz.func69,Tryz.ntmps69;go_wp2;go_ret;exact⟨rfl,zaa _ _⟩
theorem z27 (k0:l=0):PmIs 69 8 l rule x0 x1 x2 x3 R false:=by
 intro ka kc w _;subst k0;go_enter Tryz.func69,Tryz.ntmps69;go_wp2;go_ret;exact⟨rfl,zaa _ _⟩
theorem zxx (k1:l=1)(hr:(rule != 0)=true):PmIs 69 8 l rule x0 x1 x2 x3 R false:=by
 intro ka kc w _;subst k1;go_enter Tryz.func69,Tryz.ntmps69;go_wp2;go_ret;exact⟨rfl,zaa _ _⟩
theorem z5g (k1:l=1)(hr:(rule != 0)=false)(hz:z4 x0 x1 x2 x3=false):PmIs 69 8 l rule x0 x1 x2 x3 R false:=by
 intro ka kc w _;have HS:=seq hz;clear hz;subst k1;go_enter Tryz.func69,Tryz.ntmps69
 go_wp2_with (with_reducible refine zaf BinOp.eql 71 _ _ _ rfl rfl _ _ rfl rfl zal _ (HS.out _) ?_)
 go_ret;exact⟨rfl,zaa _ _⟩
theorem z8i (k1:l=1)(hr:(rule != 0)=false)(hz:z4 x0 x1 x2 x3=true):PmIs 69 8 l rule x0 x1 x2 x3 R true:=by
 intro ka kc w _;have HS:=seq hz;clear hz;subst k1;go_enter Tryz.func69,Tryz.ntmps69
 go_wp2_with (with_reducible refine zaf BinOp.eql 71 _ _ _ rfl rfl _ _ rfl rfl zal _ (HS.out _) ?_)
 go_ret;exact⟨rfl,zaa _ _⟩
theorem z28 (k2:2<=l):PmIs 69 8 l rule x0 x1 x2 x3 R false:=by
 intro ka kc w _;have m0:((l:Int) != 0)=true:=zah (by omega);have m1:((l:Int) != 1)=true:=zah (by omega);have m2:((l:Int) == 0)=false:=zae (by omega);have m3:((l:Int) == 1)=false:=zae (by omega);have m4:¬(l:Int)<2:=(by omega);have m5:(2:Int)<=(l:Int):=by omega
 go_enter Tryz.func69,Tryz.ntmps69;go_wp2;go_ret;exact⟨rfl,zaa _ _⟩
theorem z29 (k0:l=0):PmIs 69 9 l rule x0 x1 x2 x3 R false:=by
 intro ka kc w _;subst k0;go_enter Tryz.func69,Tryz.ntmps69;go_wp2;go_ret;exact⟨rfl,zaa _ _⟩
theorem zxy (k1:l=1)(hr:(rule != 0)=true):PmIs 69 9 l rule x0 x1 x2 x3 R false:=by
 intro ka kc w _;subst k1;go_enter Tryz.func69,Tryz.ntmps69;go_wp2;go_ret;exact⟨rfl,zaa _ _⟩
theorem z5h (k1:l=1)(hr:(rule != 0)=false)(hz:z4 x0 x1 x2 x3=false):PmIs 69 9 l rule x0 x1 x2 x3 R false:=by
 intro ka kc w _;have HS:=seq hz;clear hz;subst k1;go_enter Tryz.func69,Tryz.ntmps69
 go_wp2_with (with_reducible refine zaf BinOp.eql 71 _ _ _ rfl rfl _ _ rfl rfl zal _ (HS.out _) ?_)
 go_ret;exact⟨rfl,zaa _ _⟩
theorem z8j (k1:l=1)(hr:(rule != 0)=false)(hz:z4 x0 x1 x2 x3=true):PmIs 69 9 l rule x0 x1 x2 x3 R true:=by
 intro ka kc w _;have HS:=seq hz;clear hz;subst k1;go_enter Tryz.func69,Tryz.ntmps69
 go_wp2_with (with_reducible refine zaf BinOp.eql 71 _ _ _ rfl rfl _ _ rfl rfl zal _ (HS.out _) ?_)
 go_ret;exact⟨rfl,zaa _ _⟩
theorem z3a (k2:2<=l):PmIs 69 9 l rule x0 x1 x2 x3 R false:=by
 intro ka kc w _;have m0:((l:Int) != 0)=true:=zah (by omega);have m1:((l:Int) != 1)=true:=zah (by omega);have m2:((l:Int) == 0)=false:=zae (by omega);have m3:((l:Int) == 1)=false:=zae (by omega);have m4:¬(l:Int)<2:=(by omega);have m5:(2:Int)<=(l:Int):=by omega
 go_enter Tryz.func69,Tryz.ntmps69;go_wp2;go_ret;exact⟨rfl,zaa _ _⟩
end
theorem z8k (op:Int)(ka:Option Addr)(l kc:Nat)(rule x0 x1 x2 x3:Int)(R:Nat)(w:World)(hl:l<=9223372036854775807) :
  Calls Tryz.prog 88 #[.agg #[.int .i64 op,.slice ka l kc,.int .i64 rule,.int .u64 x0,.int .u64 x1,.int .u64 x2,.int .u64 x3],.int .i64 (R:Int)] w fun e w'=>e=.returned (.bool (made5 op l rule R (x0 == 0&&(x1 == 0&&(x2 == 0&&x3 == 0)))))/\Below w.heap.size w w':=by
 refine(?_:PmIs 88 op l rule x0 x1 x2 x3 R (made5 op l rule R (z4 x0 x1 x2 x3))) ka kc w hl;clear hl w kc ka;have hrr:rule=0∨rule≠0:=by omega
 have hk:l=0∨l=1∨2<=l:=by omega
 by_cases h0:op<0
 ·rw[zog h0]
  cases hz:z4 x0 x1 x2 x3 with
  |false=>exact z00 h0 hz
  |true=>
   rcases hrr with hr|hr
   ·exact z02 h0 hz (by subst hr;rfl)
   ·exact z01 h0 hz (zah hr)
 by_cases h9:9<op
 ·rw[zla h9]
  cases hz:z4 x0 x1 x2 x3 with
  |false=>exact zxl h9 hz
  |true=>
   rcases hrr with hr|hr
   ·exact zxn h9 hz (by subst hr;rfl)
   ·exact zxm h9 hz (zah hr)
 have h10:op=0∨op=1∨op=2∨op=3∨op=4∨op=5∨op=6∨op=7∨op=8∨op=9:=by omega
 clear h0 h9;rcases h10 with rfl|rfl|rfl|rfl|rfl|rfl|rfl|rfl|rfl|rfl
 ·cases hz:z4 x0 x1 x2 x3 with
  |false=>
   rw[zbm (by omega)];exact z62 hz
  |true=>
   rcases hrr with hr|hr
   case inr=>rw[zar (by omega) hr];exact z63 hz (zah hr)
   rcases hk with hk|hk|hk
   ·rw[zbb (by omega) (by omega) (by omega) (by omega) (by first|exact Or.inr rfl|exact Or.inl rfl)];exact z64 hz hk (by subst hr;rfl)
   ·rw[za4 (by omega) (by omega)];exact z65 hz hk (by subst hr;rfl)
   ·rw[za4 (by omega) (by omega)];exact z66 hz hk (by subst hr;rfl)
 ·cases hz:z4 x0 x1 x2 x3 with
  |false=>
   rcases hrr with hr|hr
   case inr=>rw[zar (by omega) hr];exact z2l (zah hr)
   rcases hk with hk|hk|hk
   ·rw[zbb (by omega) (by omega) (by omega) (by omega) (by first|exact Or.inr rfl|exact Or.inl rfl)];exact z2m hk (by subst hr;rfl)
   ·rw[za4 (by omega) (by omega)];exact z2n hk (by subst hr;rfl)
   ·rw[za4 (by omega) (by omega)];exact z2o hk (by subst hr;rfl)
  |true=>
   rcases hrr with hr|hr
   case inr=>rw[zar (by omega) hr];exact z2l (zah hr)
   rcases hk with hk|hk|hk
   ·rw[zbb (by omega) (by omega) (by omega) (by omega) (by first|exact Or.inr rfl|exact Or.inl rfl)];exact z2m hk (by subst hr;rfl)
   ·rw[za4 (by omega) (by omega)];exact z2n hk (by subst hr;rfl)
   ·rw[za4 (by omega) (by omega)];exact z2o hk (by subst hr;rfl)
 ·cases hz:z4 x0 x1 x2 x3 with
  |false=>
   rw[zbm (by omega)];exact z67 hz
  |true=>
   rcases hk with hk|hk|hk
   ·by_cases hr:0<=rule
    ·by_cases hR:rule<(R:Int)
     ·rw[zbb (by omega) (by omega) (by omega) (by omega) (by first|exact Or.inr rfl|exact Or.inl rfl)];exact z68 hz hk hr hR
     ·rw[zdh (by omega)];exact z47 hz hk hr hR
    ·rw[zdh (by omega)];exact z45 hz hk hr
   ·rw[za4 (by omega) (by omega)];exact z69 hz hk
   ·rw[za4 (by omega) (by omega)];exact z7a hz hk
 ·cases hz:z4 x0 x1 x2 x3 with
  |false=>
   rw[zbm (by omega)];exact z7b hz
  |true=>
   rcases hrr with hr|hr
   case inr=>rw[zar (by omega) hr];exact z7c hz (zah hr)
   rcases hk with hk|hk|hk
   ·rw[zbr (by omega) (by omega)];exact z7d hz hk (by subst hr;rfl)
   ·rw[zbr (by omega) (by omega)];exact z7e hz hk (by subst hr;rfl)
   ·rw[zbb (by omega) (by omega) (by omega) (by omega) (by first|exact Or.inr rfl|exact Or.inl rfl)];exact z7f hz hk (by subst hr;rfl)
 ·cases hz:z4 x0 x1 x2 x3 with
  |false=>
   rw[zbm (by omega)];exact z7g hz
  |true=>
   rcases hrr with hr|hr
   case inr=>rw[zar (by omega) hr];exact z7h hz (zah hr)
   rcases hk with hk|hk|hk
   ·rw[zbr (by omega) (by omega)];exact z7i hz hk (by subst hr;rfl)
   ·rw[zbr (by omega) (by omega)];exact z7j hz hk (by subst hr;rfl)
   ·rw[zbb (by omega) (by omega) (by omega) (by omega) (by first|exact Or.inr rfl|exact Or.inl rfl)];exact z7k hz hk (by subst hr;rfl)
 ·cases hz:z4 x0 x1 x2 x3 with
  |false=>
   rw[zbm (by omega)];exact z7l hz
  |true=>
   rcases hrr with hr|hr
   case inr=>rw[zar (by omega) hr];exact z7m hz (zah hr)
   rcases hk with hk|hk|hk
   ·rw[zau (by omega) (by omega)];exact z7n hz hk (by subst hr;rfl)
   ·rw[zbb (by omega) (by omega) (by omega) (by omega) (by first|exact Or.inr rfl|exact Or.inl rfl)];exact z7o hz hk (by subst hr;rfl)
   ·rw[zau (by omega) (by omega)];exact z7p hz hk (by subst hr;rfl)
 ·cases hz:z4 x0 x1 x2 x3 with
  |false=>
   rw[zbm (by omega)];exact z7q hz
  |true=>
   rcases hrr with hr|hr
   case inr=>rw[zar (by omega) hr];exact z7r hz (zah hr)
   rcases hk with hk|hk|hk
   ·rw[zau (by omega) (by omega)];exact z7s hz hk (by subst hr;rfl)
   ·rw[zbb (by omega) (by omega) (by omega) (by omega) (by first|exact Or.inr rfl|exact Or.inl rfl)];exact z7t hz hk (by subst hr;rfl)
   ·rw[zau (by omega) (by omega)];exact z7u hz hk (by subst hr;rfl)
 ·cases hz:z4 x0 x1 x2 x3 with
  |false=>
   rw[zbm (by omega)];exact z7v hz
  |true=>
   rcases hrr with hr|hr
   case inr=>rw[zar (by omega) hr];exact z7w hz (zah hr)
   rcases hk with hk|hk|hk
   ·rw[zau (by omega) (by omega)];exact z7x hz hk (by subst hr;rfl)
   ·rw[zbb (by omega) (by omega) (by omega) (by omega) (by first|exact Or.inr rfl|exact Or.inl rfl)];exact z7y hz hk (by subst hr;rfl)
   ·rw[zau (by omega) (by omega)];exact z7z hz hk (by subst hr;rfl)
 ·cases hz:z4 x0 x1 x2 x3 with
  |false=>
   rw[zbm (by omega)];exact z70 hz
  |true=>
   rcases hrr with hr|hr
   case inr=>rw[zar (by omega) hr];exact z71 hz (zah hr)
   rcases hk with hk|hk|hk
   ·rw[zau (by omega) (by omega)];exact z72 hz hk (by subst hr;rfl)
   ·rw[zbb (by omega) (by omega) (by omega) (by omega) (by first|exact Or.inr rfl|exact Or.inl rfl)];exact z73 hz hk (by subst hr;rfl)
   ·rw[zau (by omega) (by omega)];exact z74 hz hk (by subst hr;rfl)
 ·cases hz:z4 x0 x1 x2 x3 with
  |false=>
   rw[zbm (by omega)];exact z75 hz
  |true=>
   rcases hrr with hr|hr
   case inr=>rw[zar (by omega) hr];exact z76 hz (zah hr)
   rcases hk with hk|hk|hk
   ·rw[zau (by omega) (by omega)];exact z77 hz hk (by subst hr;rfl)
   ·rw[zbb (by omega) (by omega) (by omega) (by omega) (by first|exact Or.inr rfl|exact Or.inl rfl)];exact z78 hz hk (by subst hr;rfl)
   ·rw[zau (by omega) (by omega)];exact z79 hz hk (by subst hr;rfl)
theorem z8l (op:Int)(ka:Option Addr)(l kc:Nat)(rule x0 x1 x2 x3:Int)(R:Nat)(w:World)(hl:l<=9223372036854775807) :
  Calls Tryz.prog 69 #[.agg #[.int .i64 op,.slice ka l kc,.int .i64 rule,.int .u64 x0,.int .u64 x1,.int .u64 x2,.int .u64 x3],.int .i64 (R:Int)] w fun e w'=>e=.returned (.bool (made5 op l rule R (x0 == 0&&(x1 == 0&&(x2 == 0&&x3 == 0)))))/\Below w.heap.size w w':=by
 refine(?_:PmIs 69 op l rule x0 x1 x2 x3 R (made5 op l rule R (z4 x0 x1 x2 x3))) ka kc w hl;clear hl w kc ka;have hrr:rule=0∨rule≠0:=by omega
 have hk:l=0∨l=1∨2<=l:=by omega
 by_cases h0:op<0
 ·rw[zog h0];exact z8a h0
 by_cases h9:9<op
 ·rw[zla h9];exact z48 h9 h0
 have h10:op=0∨op=1∨op=2∨op=3∨op=4∨op=5∨op=6∨op=7∨op=8∨op=9:=by omega
 clear h0 h9;rcases h10 with rfl|rfl|rfl|rfl|rfl|rfl|rfl|rfl|rfl|rfl
 ·cases hz:z4 x0 x1 x2 x3 with
  |false=>
   rcases hk with hk|hk|hk
   ·rcases hrr with hr|hr
    ·rw[zbm (by omega)];exact z49 hk (by subst hr;rfl) hz
    ·rw[zar (by omega) hr];exact zxo hk (zah hr)
   ·rw[za4 (by omega) (by omega)];exact z2p hk
   ·rw[za4 (by omega) (by omega)];exact z2q hk
  |true=>
   rcases hk with hk|hk|hk
   ·rcases hrr with hr|hr
    ·rw[zbb (by omega) (by omega) (by omega) (by omega) (by first|exact Or.inr rfl|exact Or.inl rfl)];exact z8b hk (by subst hr;rfl) hz
    ·rw[zar (by omega) hr];exact zxo hk (zah hr)
   ·rw[za4 (by omega) (by omega)];exact z2p hk
   ·rw[za4 (by omega) (by omega)];exact z2q hk
 ·cases hz:z4 x0 x1 x2 x3 with
  |false=>
   rcases hk with hk|hk|hk
   ·rcases hrr with hr|hr
    ·rw[zbb (by omega) (by omega) (by omega) (by omega) (by first|exact Or.inr rfl|exact Or.inl rfl)];exact z2r hk (by subst hr;rfl)
    ·rw[zar (by omega) hr];exact zxp hk (zah hr)
   ·rw[za4 (by omega) (by omega)];exact z2s hk
   ·rw[za4 (by omega) (by omega)];exact z2t hk
  |true=>
   rcases hk with hk|hk|hk
   ·rcases hrr with hr|hr
    ·rw[zbb (by omega) (by omega) (by omega) (by omega) (by first|exact Or.inr rfl|exact Or.inl rfl)];exact z2r hk (by subst hr;rfl)
    ·rw[zar (by omega) hr];exact zxp hk (zah hr)
   ·rw[za4 (by omega) (by omega)];exact z2s hk
   ·rw[za4 (by omega) (by omega)];exact z2t hk
 ·cases hz:z4 x0 x1 x2 x3 with
  |false=>
   rcases hk with hk|hk|hk
   ·by_cases hr:rule<0
    ·rw[zdh (by omega)];exact zxq hk hr
    ·by_cases hR:(R:Int)<=rule
     ·rw[zdh (by omega)];exact zxr hk hr hR
     ·rw[zbm (by omega)];exact z5a hk hr hR hz
   ·rw[za4 (by omega) (by omega)];exact z2u hk
   ·rw[za4 (by omega) (by omega)];exact z2v hk
  |true=>
   rcases hk with hk|hk|hk
   ·by_cases hr:rule<0
    ·rw[zdh (by omega)];exact zxq hk hr
    ·by_cases hR:(R:Int)<=rule
     ·rw[zdh (by omega)];exact zxr hk hr hR
     ·rw[zbb (by omega) (by omega) (by omega) (by omega) (by first|exact Or.inr rfl|exact Or.inl rfl)];exact z8c hk hr hR hz
   ·rw[za4 (by omega) (by omega)];exact z2u hk
   ·rw[za4 (by omega) (by omega)];exact z2v hk
 ·cases hz:z4 x0 x1 x2 x3 with
  |false=>
   rcases hk with hk|hk|hk
   ·rw[zbr (by omega) (by omega)];exact z2w hk
   ·rw[zbr (by omega) (by omega)];exact z2x hk
   ·rcases hrr with hr|hr
    ·rw[zbm (by omega)];exact z5b hk (by subst hr;rfl) hz
    ·rw[zar (by omega) hr];exact zxs hk (zah hr)
  |true=>
   rcases hk with hk|hk|hk
   ·rw[zbr (by omega) (by omega)];exact z2w hk
   ·rw[zbr (by omega) (by omega)];exact z2x hk
   ·rcases hrr with hr|hr
    ·rw[zbb (by omega) (by omega) (by omega) (by omega) (by first|exact Or.inr rfl|exact Or.inl rfl)];exact z8d hk (by subst hr;rfl) hz
    ·rw[zar (by omega) hr];exact zxs hk (zah hr)
 ·cases hz:z4 x0 x1 x2 x3 with
  |false=>
   rcases hk with hk|hk|hk
   ·rw[zbr (by omega) (by omega)];exact z2y hk
   ·rw[zbr (by omega) (by omega)];exact z2z hk
   ·rcases hrr with hr|hr
    ·rw[zbm (by omega)];exact z5c hk (by subst hr;rfl) hz
    ·rw[zar (by omega) hr];exact zxt hk (zah hr)
  |true=>
   rcases hk with hk|hk|hk
   ·rw[zbr (by omega) (by omega)];exact z2y hk
   ·rw[zbr (by omega) (by omega)];exact z2z hk
   ·rcases hrr with hr|hr
    ·rw[zbb (by omega) (by omega) (by omega) (by omega) (by first|exact Or.inr rfl|exact Or.inl rfl)];exact z8e hk (by subst hr;rfl) hz
    ·rw[zar (by omega) hr];exact zxt hk (zah hr)
 ·cases hz:z4 x0 x1 x2 x3 with
  |false=>
   rcases hk with hk|hk|hk
   ·rw[zau (by omega) (by omega)];exact z20 hk
   ·rcases hrr with hr|hr
    ·rw[zbm (by omega)];exact z5d hk (by subst hr;rfl) hz
    ·rw[zar (by omega) hr];exact zxu hk (zah hr)
   ·rw[zau (by omega) (by omega)];exact z22 hk
  |true=>
   rcases hk with hk|hk|hk
   ·rw[zau (by omega) (by omega)];exact z20 hk
   ·rcases hrr with hr|hr
    ·rw[zbb (by omega) (by omega) (by omega) (by omega) (by first|exact Or.inr rfl|exact Or.inl rfl)];exact z8f hk (by subst hr;rfl) hz
    ·rw[zar (by omega) hr];exact zxu hk (zah hr)
   ·rw[zau (by omega) (by omega)];exact z22 hk
 ·cases hz:z4 x0 x1 x2 x3 with
  |false=>
   rcases hk with hk|hk|hk
   ·rw[zau (by omega) (by omega)];exact z23 hk
   ·rcases hrr with hr|hr
    ·rw[zbm (by omega)];exact z5e hk (by subst hr;rfl) hz
    ·rw[zar (by omega) hr];exact zxv hk (zah hr)
   ·rw[zau (by omega) (by omega)];exact z24 hk
  |true=>
   rcases hk with hk|hk|hk
   ·rw[zau (by omega) (by omega)];exact z23 hk
   ·rcases hrr with hr|hr
    ·rw[zbb (by omega) (by omega) (by omega) (by omega) (by first|exact Or.inr rfl|exact Or.inl rfl)];exact z8g hk (by subst hr;rfl) hz
    ·rw[zar (by omega) hr];exact zxv hk (zah hr)
   ·rw[zau (by omega) (by omega)];exact z24 hk
 ·cases hz:z4 x0 x1 x2 x3 with
  |false=>
   rcases hk with hk|hk|hk
   ·rw[zau (by omega) (by omega)];exact z25 hk
   ·rcases hrr with hr|hr
    ·rw[zbm (by omega)];exact z5f hk (by subst hr;rfl) hz
    ·rw[zar (by omega) hr];exact zxw hk (zah hr)
   ·rw[zau (by omega) (by omega)];exact z26 hk
  |true=>
   rcases hk with hk|hk|hk
   ·rw[zau (by omega) (by omega)];exact z25 hk
   ·rcases hrr with hr|hr
    ·rw[zbb (by omega) (by omega) (by omega) (by omega) (by first|exact Or.inr rfl|exact Or.inl rfl)];exact z8h hk (by subst hr;rfl) hz
    ·rw[zar (by omega) hr];exact zxw hk (zah hr)
   ·rw[zau (by omega) (by omega)];exact z26 hk
 ·cases hz:z4 x0 x1 x2 x3 with
  |false=>
   rcases hk with hk|hk|hk
   ·rw[zau (by omega) (by omega)];exact z27 hk
   ·rcases hrr with hr|hr
    ·rw[zbm (by omega)];exact z5g hk (by subst hr;rfl) hz
    ·rw[zar (by omega) hr];exact zxx hk (zah hr)
   ·rw[zau (by omega) (by omega)];exact z28 hk
  |true=>
   rcases hk with hk|hk|hk
   ·rw[zau (by omega) (by omega)];exact z27 hk
   ·rcases hrr with hr|hr
    ·rw[zbb (by omega) (by omega) (by omega) (by omega) (by first|exact Or.inr rfl|exact Or.inl rfl)];exact z8i hk (by subst hr;rfl) hz
    ·rw[zar (by omega) hr];exact zxx hk (zah hr)
   ·rw[zau (by omega) (by omega)];exact z28 hk
 ·cases hz:z4 x0 x1 x2 x3 with
  |false=>
   rcases hk with hk|hk|hk
   ·rw[zau (by omega) (by omega)];exact z29 hk
   ·rcases hrr with hr|hr
    ·rw[zbm (by omega)];exact z5h hk (by subst hr;rfl) hz
    ·rw[zar (by omega) hr];exact zxy hk (zah hr)
   ·rw[zau (by omega) (by omega)];exact z3a hk
  |true=>
   rcases hk with hk|hk|hk
   ·rw[zau (by omega) (by omega)];exact z29 hk
   ·rcases hrr with hr|hr
    ·rw[zbb (by omega) (by omega) (by omega) (by omega) (by first|exact Or.inr rfl|exact Or.inl rfl)];exact z8j hk (by subst hr;rfl) hz
    ·rw[zar (by omega) hr];exact zxy hk (zah hr)
   ·rw[zau (by omega) (by omega)];exact z3a hk
end Go.Proofs.YtnmflokhnaiiiaaGreatDoor
