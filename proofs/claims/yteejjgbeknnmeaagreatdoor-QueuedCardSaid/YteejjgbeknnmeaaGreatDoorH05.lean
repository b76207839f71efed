import Derived.Test.YteejjgbeknnmeaaGreatDoorH04
import Derived.Deep.QuietTactic
import Derived.BigQuiet
namespace Go.Proofs.YteejjgbeknnmeaaGreatDoor
open Go.RowKit
def hasRt (r a:Int):Bool:=r == 3 || r == a
def frSet (fr:Nat->Int) (j:Nat) (n:Int) (i:Nat):Int:=if i=j then n else fr i
open Go.RowKit
open Go.RowKit
section
variable {P:Program}(w:World)
theorem run_append_any (t ty e:TypeId) (i:TypeInfo) (z:Value) (size bytes:Nat) (ht:P.underlying t=some (.slice e)) (hi:P.info? e=some i) (hz:i.zero=some z)
  (hsize:i.size=size) (hby:i.bytes=bytes) (hzs:z.cells.size=size) (hsz:0 < size) (v:Value) (R:List (List Value)) (hown:Sl w e size v R) (a:Option Addr) (m c:Nat) (S:List (List Value)) (hs:Inl w size (.slice a m c) S)
  (h63:R.length+S.length<=maxLen) (hbytes:(R.length+S.length)*bytes<=140737488355328) :
  ∃ a' c' w',(Builtin.append_ #[t,t] ty #[v,.slice a m c]).run P w=.ok (.slice a' (R.length+S.length) c') w'/\Grew e size v w (.slice a' (R.length+S.length) c') (R ++ S) w':=by
 obtain ⟨a0,c0,ev,hm,hr⟩:=hs.form
 simp only [Value.slice.injEq] at ev
 obtain ⟨rfl,rfl,rfl⟩:=ev
 cases hrows:S with
 | nil=>
  subst hrows
  obtain ⟨av,cv,rfl⟩:=hown.slice
  refine ⟨av,cv,w,?_,⟨by simpa using hown,⟨rfl,rfl,rfl,Nat.le_refl _,fun _ _ _=>rfl⟩,fun k hk=>.inr hk⟩⟩
  rcases hown.form with ⟨e1,e2⟩ | ⟨g,cap,e1,hc,_⟩
  ·simp only [Value.slice.injEq] at e1
   obtain ⟨rfl,e3,rfl⟩:=e1
   cases a <;> simp [Builtin.append_,run_underlying ht,sizeOf,typeInfo,hi,Builtin.lenOf,Builtin.firstCells,loadCells,loadCellsFrom,e2]
  ·simp only [Value.slice.injEq] at e1
   obtain ⟨rfl,_,rfl⟩:=e1
   cases a <;> simp [Builtin.append_,run_underlying ht,sizeOf,typeInfo,hi,Builtin.lenOf,Builtin.firstCells,loadCells,loadCellsFrom,hc,storeCells]
 | cons r rs=>
  rw [<- hrows]
  have hpos:0 < S.length:=by rw [hrows];simp
  rcases hr with hr | ⟨b,off,rfl,hr⟩
  ·rw [hr] at hpos;simp at hpos
  exact run_append_sl (P:=P) w t ty e i z size bytes ht hi hz hsize hby hzs hsz v R hown ⟨b,off,none⟩ S.length c S rfl hpos hs.len
    (fun j u hu=>by rw [Addr.add_mid];exact hr j u hu) (fun u hu=>by obtain ⟨x,hx,hux⟩:=List.mem_flatten.1 hu;exact hs.one x hx u hux) h63 hbytes
theorem wpList_append_any {ops:Array Oper}{rest:List Oper}{o:Oper}{ac:Act}{Q:Exit->Act->World->Prop}(hgd:o.guard=none) (s x:Operand) (t:TypeId)
  (ho:o.op=.call { callee:=.builtin .append,args:=#[s,x],argTypes:=#[t,t] })
  (e:TypeId) (i:TypeInfo) (z:Value) (size bytes:Nat) (ht:P.underlying t=some (.slice e)) (hi:P.info? e=some i) (hz:i.zero=some z)
  (hsize:i.size=size) (hby:i.bytes=bytes) (hzs:z.cells.size=size) (hsz:0 < size)
  (v:Value) (R:List (List Value)) (hv:ac.eval s=v) (hown:Sl w e size v R) (a:Option Addr) (m c:Nat) (S:List (List Value)) (hx:ac.eval x=.slice a m c) (hs:Inl w size (.slice a m c) S)
  (h63:R.length+S.length<=maxLen) (hbytes:(R.length+S.length)*bytes<=140737488355328)
  (h:∀ a' c' w',Grew e size v w (.slice a' (R.length+S.length) c') (R ++ S) w'->wpList P ops Q rest (ac.put o.dst (.slice a' (R.length+S.length) c')) w'):wpList P ops Q (o :: rest) ac w:=by
 obtain ⟨a',c',w',hr,hG⟩:=run_append_any (P:=P) w t o.type e i z size bytes ht hi hz hsize hby hzs hsz v R hown a m c S hs h63 hbytes
 refine wpList_plain hgd fun _ hK=>?_
 unfold Oper.wp execOp
 simp only [ho,resolve,invoke,builtin,Sem.run_bind,Sem.run_pure,Result.andThen_ok,List.map_toArray,List.map_cons,List.map_nil,hv,hx,hr]
 exact hK _ _ (h a' c' w' hG)
end
theorem wpList_append_n {P:Program}(w:World){ops:Array Oper}{rest:List Oper}{o:Oper}{ac:Act}{Q:Exit->Act->World->Prop}(hgd:o.guard=none) (s x:Operand) (t:TypeId)
  (ho:o.op=.call { callee:=.builtin .append,args:=#[s,x],argTypes:=#[t,t] })
  (e:TypeId) (i:TypeInfo) (z:Value) (size bytes:Nat) (ht:P.underlying t=some (.slice e)) (hi:P.info? e=some i) (hz:i.zero=some z)
  (hsize:i.size=size) (hby:i.bytes=bytes) (hzs:z.cells.size=size) (hsz:0 < size)
  (v:Value) (R:List (List Value)) (hv:ac.eval s=v) (hown:Sl w e size v R) (a:Option Addr) (m c:Nat) (S:List (List Value)) (hx:ac.eval x=.slice a m c) (hs:Inl w size (.slice a m c) S)
  (n:Nat) (hn:R.length+S.length=n) (h63:n<=maxLen) (hbytes:n*bytes<=140737488355328)
  (h:∀ a' c' w',Grew e size v w (.slice a' n c') (R ++ S) w'->wpList P ops Q rest (ac.put o.dst (.slice a' n c')) w'):wpList P ops Q (o :: rest) ac w:=by
 subst hn
 exact wpList_append_any w hgd s x t ho e i z size bytes ht hi hz hsize hby hzs hsz v R hv hown a m c S hx hs h63 hbytes h
theorem Sl.part {w:World}{e:TypeId}{size:Nat}{g n c:Nat}{rows:List (List Value)}(h:Sl w e size (.slice (some ⟨g,0,none⟩) n c) rows) (h1:∀ r∈rows,∀ u∈r,u.oneCell'=true) (k m c':Nat) (hm:(rows.drop k).take m=[]\/k+m<=rows.length) (hlen:((rows.drop k).take m).length=m) (hx:rows.length<=maxLen) :
  Inl w size (.slice (some ⟨g,k*size,none⟩) m c') ((rows.drop k).take m):=by
 refine ⟨fun r hr=>h.len r (List.mem_of_mem_drop (List.mem_of_mem_take hr)),fun r hr=>h1 r (List.mem_of_mem_drop (List.mem_of_mem_take hr)),⟨_,c',by rw [hlen],?_,.inr ⟨g,k*size,rfl,?_⟩⟩⟩
 ·rw [hlen];rcases hm with hm | hm
  ·rw [hm] at hlen;simp at hlen;omega
  ·omega
 ·intro j u hu
  have hl:∀ r∈rows,r.length=size:=h.len
  have:=h.own.cells (g:=g) rfl (k*size+j) u ?_
  ·rw [Addr.add_mid,Nat.zero_add] at this;exact this
  ·have e1:rows.flatten=(rows.take k).flatten ++ ((rows.drop k).take m).flatten ++ ((rows.drop k).drop m).flatten:=by
    rw [<- List.flatten_append,<- List.flatten_append,List.append_assoc,List.take_append_drop,List.take_append_drop]
   have e2:j < ((rows.drop k).take m).flatten.length:=(List.getElem?_eq_some_iff.1 hu).1
   by_cases hk:k<=rows.length
   ·have e3:(rows.take k).flatten.length=k*size:=by
     rw [flatten_len _ (fun r hr=>hl r (List.mem_of_mem_take hr))];simp [Nat.min_eq_left hk]
    rw [e1,List.append_assoc,List.getElem?_append_right (by omega),e3,Nat.add_sub_cancel_left,List.getElem?_append_left e2]
    exact hu
   ·rw [List.drop_of_length_le (by omega)] at hu;simp at hu
open Go.RowKit
def outQ (L:List (Int×Int×Int×Int)) (s n:Int):List (Int×Int×Int×Int):=L.filter (fun p=>!(p.1 == s && p.2.1 == n))
open Go.RowKit
theorem apart_iff (L:List (Int×Int×Int×Int)):Apart L↔L.Pairwise (fun q p=>¬ (q.1=p.1/\q.2.1=p.2.1)):=by
 rw [List.pairwise_iff_getElem]
 constructor
 ·intro h i j hi hj hij
  exact h j i _ _ hij (List.getElem?_eq_getElem hj) (List.getElem?_eq_getElem hi)
 ·intro h i k p q hk hp hq
  obtain ⟨hi,rfl⟩:=List.getElem?_eq_some_iff.1 hp
  obtain ⟨hk',rfl⟩:=List.getElem?_eq_some_iff.1 hq
  exact h k i hk' hi hk
theorem outQ_find (L:List (Int×Int×Int×Int)) (s n s' n':Int):findQ (outQ L s n) s' n'=if s=s'/\n=n' then none else findQ L s' n':=by
 unfold findQ outQ
 rw [List.find?_filter]
 by_cases h:s=s'/\n=n'
 ·rw [if_pos h,List.find?_eq_none]
  intro q _
  obtain ⟨rfl,rfl⟩:=h
  cases (q.1 == s && q.2.1 == n) <;> simp
 ·rw [if_neg h]
  congr 1
  funext q
  by_cases e:q.1=s'/\q.2.1=n'
  ·have:¬ (s'=s/\n'=n):=fun g=>h ⟨g.1.symm,g.2.symm⟩
   rw [e.1,e.2]
   by_cases f:s'=s
   ·have g:¬ n'=n:=fun g=>this ⟨f,g⟩
    simp [g]
   ·simp [f]
  ·have:(q.1 == s' && q.2.1 == n')=false:=by
    rw [Bool.and_eq_false_iff]
    by_cases f:q.1=s'
    ·right;simp;exact fun g=>e ⟨f,g⟩
    ·left;simpa using f
   simp [this]
def putQ:List (Int×Int×Int×Int)->Int->Int->Int->Int->List (Int×Int×Int×Int)
 | [],s,n,t,r=>[(s,n,t,r)]
 | q :: L,s,n,t,r=>if q.1=s/\q.2.1=n then (s,n,t,r) :: L else q :: putQ L s n t r
theorem eq2_false {a b s n:Int}(h:¬ (a=s/\b=n)):(a == s && b == n)=false:=by
 rw [Bool.and_eq_false_iff]
 by_cases f:a=s
 ·right;simp;exact fun g=>h ⟨f,g⟩
 ·left;simpa using f
theorem putQ_find (L:List (Int×Int×Int×Int)) (s n t r s' n':Int):findQ (putQ L s n t r) s' n'=if s=s'/\n=n' then some (s,n,t,r) else findQ L s' n':=by
 induction L with
 | nil=>
  unfold findQ
  by_cases h:s=s'/\n=n'
  ·rw [if_pos h];simp [putQ,h.1,h.2]
  ·rw [if_neg h]
   simp only [putQ,List.find?_cons,List.find?_nil,eq2_false h]
 | cons q L ih=>
  unfold findQ at ih ⊢
  rw [putQ]
  by_cases e:q.1=s/\q.2.1=n
  ·rw [if_pos e,List.find?_cons,List.find?_cons,e.1,e.2]
   by_cases h:s=s'/\n=n'
   ·rw [if_pos h];simp [h.1,h.2]
   ·rw [if_neg h]
    dsimp only
    rw [eq2_false h]
  ·rw [if_neg e,List.find?_cons,List.find?_cons,ih]
   by_cases h:s=s'/\n=n'
   ·rw [if_pos h,if_pos h,eq2_false (by rw [<- h.1,<- h.2];exact e)]
   ·rw [if_neg h,if_neg h]
open Go.RowKit
open Go.RowKit
open Go.RowKit
structure Th where
 sp:Int
 row:Int
 st:Int
 ord:Int
 left:Int
 dst:Int
 mw:List Int
 item:Int
 rt:Int
 frm:Int
 win:Int
 wait:Int
 lends:Bool
 other:Int
 turn:Int
 time:Int
 code:Int
 who:Int
 ws:List Int
 got:Int
structure Lf where
 sp:Int
 pg:Int
 fr:Int
 rt:Int
 usp:Int
 upg:Int
structure RM where
 threads:List Th
 sp:Int
 passes:List (Int×Int×Int×Int)
 leaves:List Lf
 fr:Nat->Int
 clock:Int
 first:Int
 last:Int
structure Sv where
 a:Option Addr
 n:Nat
 c:Nat
abbrev Sv.v (s:Sv):Value:=.slice s.a s.n s.c
def Sv.nil:Sv:=⟨none,0,0⟩
def lnI (z:Int):List Value:=[.int .i64 z]
theorem set_self {α:Type}{l:List α}{i:Nat}{a:α}(h:l[i]? = some a):l.set i a=l:=by
 apply List.ext_getElem?
 intro j
 rw [List.getElem?_set]
 by_cases e:i=j
 ·subst e
  rw [if_pos rfl,if_pos (List.getElem?_eq_some_iff.1 h).1,h]
 ·rw [if_neg e]
section
variable {w w':World}{y:Nat}{K:RM}{vt vp vl:Value}{sl:List (Sv×Sv)}
end
section
variable {w:World}{y:Nat}{K:RM}{g n c:Nat}{vp vl:Value}{sl:List (Sv×Sv)}
end
section
variable {w:World}{y:Nat}{K K':RM}{vt vp vl:Value}{sl:List (Sv×Sv)}
end
open Go.RowKit
def curStep (ts:List Th) (c:Int) (k:Nat):Int:=
 match ts[k]? with
 | none=>c
 | some t=>if t.st≠1 then c else if c < 0 then k else
  match ts[c.toNat]? with
  | none=>c
  | some u=>if u.row < t.row\/(t.row=u.row/\t.ord < u.ord) then k else c
def curM (ts:List Th):Nat->Int
 | 0=>-1
 | k+1=>curStep ts (curM ts k) k
def RM.cur (K:RM):Int:=curM K.threads K.threads.length
theorem curM_inv (ts:List Th):∀ k,k<=ts.length->curM ts k=-1\/∃ (j:Nat) (u:Th),curM ts k=j/\j < k/\ts[j]? = some u/\u.st=1
 | 0,_=>.inl rfl
 | k+1,h=>by
  obtain ⟨t,ht⟩:∃ t,ts[k]? = some t:=⟨_,List.getElem?_eq_getElem h⟩
  have ih:=curM_inv ts k (by omega)
  by_cases hst:t.st=1
  ·rcases ih with e | ⟨j,u,e,hj,hu,h1⟩
   ·right
    refine ⟨k,t,?_,by omega,ht,hst⟩
    simp [curM,curStep,ht,hst,e]
   ·right
    have e2:(curM ts k).toNat=j:=by rw [e];simp
    by_cases hc:u.row < t.row\/(t.row=u.row/\t.ord < u.ord)
    ·refine ⟨k,t,?_,by omega,ht,hst⟩
     simp only [curM,curStep,ht,e2,hu]
     rw [if_neg (by simpa using hst),if_neg (by omega),if_pos hc]
    ·refine ⟨j,u,?_,by omega,hu,h1⟩
     simp only [curM,curStep,ht,e2,hu]
     rw [if_neg (by simpa using hst),if_neg (by omega),if_neg hc,e]
  ·have e3:curM ts (k+1)=curM ts k:=by simp [curM,curStep,ht,hst]
   rw [e3]
   rcases ih with e | ⟨j,u,e,hj,hu,h1⟩
   ·exact .inl e
   ·exact .inr ⟨j,u,e,by omega,hu,h1⟩
def senStep (ts:List Th) (t f:Int) (c:Int) (k:Nat):Int:=
 match ts[k]? with
 | none=>c
 | some x=>if x.st≠2\/x.other≠t\/(f≠-1/\f≠k) then c else if c < 0 then k else
  match ts[c.toNat]? with
  | none=>c
  | some u=>if x.turn < u.turn then k else c
def senM (ts:List Th) (t f:Int):Nat->Int
 | 0=>-1
 | k+1=>senStep ts t f (senM ts t f k) k
theorem senM_inv (ts:List Th) (t f:Int):∀ k,k<=ts.length->senM ts t f k=-1\/∃ (j:Nat) (u:Th),senM ts t f k=j/\j < k/\ts[j]? = some u/\u.st=2/\u.other=t/\(f=-1\/f=j)
 | 0,_=>.inl rfl
 | k+1,h=>by
  obtain ⟨x,hx⟩:∃ x,ts[k]? = some x:=⟨_,List.getElem?_eq_getElem h⟩
  have ih:=senM_inv ts t f k (by omega)
  by_cases hs:x.st≠2\/x.other≠t\/(f≠-1/\f≠k)
  ·have e3:senM ts t f (k+1)=senM ts t f k:=by simp only [senM,senStep,hx];rw [if_pos hs]
   rw [e3]
   rcases ih with e | ⟨j,u,e,hj,hu⟩
   ·exact .inl e
   ·exact .inr ⟨j,u,e,by omega,hu⟩
  ·have hs':x.st=2/\x.other=t/\(f=-1\/f=k):=by omega
   right
   rcases ih with e | ⟨j,u,e,hj,hu,h1⟩
   ·refine ⟨k,x,?_,by omega,hx,hs'⟩
    simp only [senM,senStep,hx]
    rw [if_neg hs,if_pos (by omega)]
   ·have e2:(senM ts t f k).toNat=j:=by rw [e];simp
    by_cases hc:x.turn < u.turn
    ·refine ⟨k,x,?_,by omega,hx,hs'⟩
     simp only [senM,senStep,hx,e2,hu]
     rw [if_neg hs,if_neg (by omega),if_pos hc]
    ·refine ⟨j,u,?_,by omega,hu,h1⟩
     simp only [senM,senStep,hx,e2,hu]
     rw [if_neg hs,if_neg (by omega),if_neg hc,e]
end Go.Proofs.YteejjgbeknnmeaaGreatDoor
