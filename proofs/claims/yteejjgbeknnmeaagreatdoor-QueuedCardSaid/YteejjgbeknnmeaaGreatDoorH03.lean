import Derived.Test.YteejjgbeknnmeaaGreatDoorH02
import Derived.Deep.QuietTactic
import Derived.BigQuiet
import Derived.BigRegion
import Derived.Deep.DeepCutAuto
import Derived.Deep.RegionHeld3
import Derived.Deep.RegionHeldLaw
namespace Go.Proofs.YteejjgbeknnmeaaGreatDoor
open Go.RowKit
def okT (sp:Int) (p:Int×Int):Prop:=0<=p.1/\p.1<=sp-1/\0<=p.2/\p.2<=3
def okQ (sp h:Int) (p:Int×Int×Int×Int):Prop:=0<=p.1/\p.1<=sp-1/\0<=p.2.1/\p.2.1<=5/\0<=p.2.2.1/\p.2.2.1<=h/\1<=p.2.2.2/\p.2.2.2<=3
def Apart (L:List (Int×Int×Int×Int)):Prop:=∀ (i k:Nat) (p q:Int×Int×Int×Int),k < i->L[i]? = some p->L[k]? = some q->¬ (q.1=p.1/\q.2.1=p.2.1)
def Fits (sp:Int) (T:List (Int×Int)) (Q L:List (Int×Int×Int×Int)):Prop:=
 (1<=sp/\sp<=3)/\(1<=T.length/\T.length<=6)/\(∀ (i:Nat) p,T[i]? = some p->okT sp p)/\(∀ (i:Nat) p,Q[i]? = some p->okQ sp ((T.length:Int)-1) p)/\Apart Q/\(∀ (i:Nat) p,L[i]? = some p->okQ sp 7 p)/\Apart L
theorem inI_true {n lo hi:Int}:inI n lo hi=true↔lo<=n/\n<=hi:=by simp [inI]
open Go.RowKit
def kc (vt vp vl:Value) (sp:Int) (fr:Nat->Int) (cl la:Int):Array Value:=#[vt,.int .i64 sp,vp,vl,.int .i64 (fr 0),.int .i64 (fr 1),.int .i64 (fr 2),.int .i64 (fr 3),.int .i64 (fr 4),.int .i64 (fr 5),.int .i64 (fr 6),.int .i64 (fr 7),.int .i64 (fr 8),.int .i64 (fr 9),.int .i64 (fr 10),.int .i64 (fr 11),.int .i64 (fr 12),.int .i64 (fr 13),.int .i64 (fr 14),.int .i64 (fr 15),.int .i64 (fr 16),.int .i64 (fr 17),.int .i64 (fr 18),.int .i64 (fr 19),.int .i64 (fr 20),.int .i64 (fr 21),.int .i64 (fr 22),.int .i64 (fr 23),.int .i64 (fr 24),.int .i64 (fr 25),.int .i64 (fr 26),.int .i64 (fr 27),.int .i64 (fr 28),.int .i64 (fr 29),.int .i64 (fr 30),.int .i64 (fr 31),.int .i64 cl,.int .i64 (-1),.int .i64 la]
def fr0:Nat->Int:=fun _=>0
structure RK where
 threads:List (Int×Int×Int×Int)
 sp:Int
 passes:List (Int×Int×Int×Int)
 leaves:List (Int×Int×Int×Int)
 fr:Nat->Int
 clock:Int
 last:Int
def born (i:Nat):List (Int×Int)->List (Int×Int×Int×Int)
 | []=>[]
 | p :: r=>(p.1,p.2,i,3) :: born (i+1) r
theorem born_append (i:Nat) (A:List (Int×Int)) (p:Int×Int):born i (A ++ [p])=born i A ++ [(p.1,p.2,((i+A.length:Nat):Int),3)]:=by
 induction A generalizing i with
 | nil=>simp [born]
 | cons a r ih=>
  simp only [List.cons_append,born,ih,List.length_cons]
  rw [show i+1+r.length=i+(r.length+1) by omega]
theorem born_step {T:List (Int×Int)}{k:Nat}{p:Int×Int}(h:T[k]? = some p):born 0 (T.take (k+1))=born 0 (T.take k) ++ [(p.1,p.2,(k:Int),3)]:=by
 obtain ⟨hk,e⟩:=List.getElem?_eq_some_iff.1 h
 rw [List.take_succ_eq_append_getElem hk,born_append,e]
 simp [Nat.min_eq_left (Nat.le_of_lt hk)]
theorem born_length (i:Nat) (T:List (Int×Int)):(born i T).length=T.length:=by
 induction T generalizing i with
 | nil=>rfl
 | cons p r ih=>simp [born,ih]
def RK.new (sp:Int) (T:List (Int×Int)) (Q L:List (Int×Int×Int×Int)):RK:=⟨born 0 T,sp,Q,L,fr0,0,T.length⟩
end Go.Proofs.YteejjgbeknnmeaaGreatDoor
