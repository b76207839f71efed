import Derived.Test.YteejjgbeknnmeaaGreatDoorH03
import Derived.Deep.QuietTactic
import Derived.BigQuiet
import Derived.BigRegion
import Derived.Deep.DeepCutAuto
namespace Go.Proofs.YteejjgbeknnmeaaGreatDoor
open Go.RowKit
open Go.RowKit
open Go.RowKit
open Go.RowKit
theorem results_row_tmp {P:Program}{fn:Func}{p q:Tmp}{ty:TypeId}(h:fn.results=#[.cell p ty,.tmp q]) (tmps:Array Value) (w:World) (g:Nat) (t:TypeId) (cs:Array Value) (fr:Nat×Nat) (d:TypeDesc) (r:Value)
  (hp:tmps.getD p undef=.pointer (some ⟨g,0,none⟩)) (hg:w.heap[g]? = some (.cells cs t fr)) (hu:P.underlying ty=some d) (hd:(match d with | .struct _ | .array _ _=>true | _=>false)=true) (hi:(P.info? ty).map (·.size)=some cs.size) (hr:tmps.getD q undef=r) :
  (results fn tmps).run P w=.ok (.tuple #[.agg cs,r]) w:=by
 have hp':tmps[p]?.getD undef=.pointer (some ⟨g,0,none⟩):=by simpa using hp
 have hq':tmps[q]?.getD undef=r:=by simpa using hr
 simp [results,h,hp',hq',asAddr,run_loadVar_row w g t ty cs fr d hg hu hd hi]
open Go.RowKit
def findQ (L:List (Int×Int×Int×Int)) (s n:Int):Option (Int×Int×Int×Int):=L.find? (fun p=>p.1 == s && p.2.1 == n)
def told (L:List (Int×Int×Int×Int)) (s:Int):Nat->List (Int×Int×Int×Int)
 | 0=>[]
 | k+1=>told L s k ++ (findQ L s k).toList
theorem told_le (L:List (Int×Int×Int×Int)) (s:Int):∀ k,(told L s k).length<=k
 | 0=>by simp [told]
 | k+1=>by
  have:=told_le L s k
  simp only [told,List.length_append]
  cases findQ L s k <;> simp <;> omega
open Go.RowKit
theorem new4 (w:World) (A B C D:Obj) :
  ((((w.alloc A).alloc B).alloc C).alloc D).heap[w.heap.size]? = some A/\((((w.alloc A).alloc B).alloc C).alloc D).heap[w.heap.size+1]? = some B /\
  ((((w.alloc A).alloc B).alloc C).alloc D).heap[w.heap.size+1+1]? = some C/\((((w.alloc A).alloc B).alloc C).alloc D).heap[w.heap.size+1+1+1]? = some D:=by
 simp only [heap_push,Array.getElem?_push,Array.size_push]
 refine ⟨?_,?_,?_,?_⟩ <;> (repeat (first | rw [if_pos (by first | trivial | omega)] | rw [if_neg (by omega)]))
theorem inl_lit {w:World}{g size n:Nat}{rows:List (List Value)}{e:TypeId}{cs:Array Value}(hb:w.heap[g]? = some (.cells cs e (0,0))) (hc:cs.toList=rows.flatten) (hn:rows.length=n) (hl:∀ r∈rows,r.length=size) (h1:∀ r∈rows,∀ u∈r,u.oneCell'=true) (hm:n<=maxLen) :
  Inl w size (.slice (some ⟨g,0,none⟩) n n) rows:=by
 subst hn
 refine ⟨hl,h1,some ⟨g,0,none⟩,rows.length,rfl,hm,.inr ⟨g,0,rfl,fun j v hv=>?_⟩⟩
 rw [Nat.zero_add,cell_of_row w g j cs e (0,0) hb,<- hv,<- hc]
 simp
open Go.RowKit
def hasRt (r a:Int):Bool:=r == 3 || r == a
def frSet (fr:Nat->Int) (j:Nat) (n:Int) (i:Nat):Int:=if i=j then n else fr i
open Go.RowKit
open Go.RowKit
section
variable {P:Program}(w:World)
theorem run_append_any (t ty e:TypeId) (i:TypeInfo) (z:Value) (size bytes:Nat) (ht:P.underlying t=some (.slice e)) (hi:P.info? e=some i) (hz:i.zero=some z)
  (hsize:i.size=size) (hby:i.bytes=bytes) (hzs:z.cells.size=size) (hsz:0 < size) (v:Value) (R:List (List Value)) (hown:Sl w e size v R) (a:Option Addr) (m c:Nat) (S:List (List Value)) (hs:Inl w size (.slice a m c) S)
  (h63:R.length+S.length<=maxLen) (hbytes:(R.length+S.length)*bytes<=140737488355328) :
  ∃ a' c' w',(Builtin.append_ #[t,t] ty #[v,.slice a m c]).run P w=.ok (.slice a' (R.length+S.length) c') w'/\Grew e size v w (.slice a' (R.length+S.length) c') (R ++ S) w':=by
 obtain ⟨a0,c0,ev,hm,hr⟩:=hs.form
 simp only [Value.slice.injEq] at ev
 obtain ⟨rfl,rfl,rfl⟩:=ev
 cases hrows:S with
 | nil=>
  subst hrows
  obtain ⟨av,cv,rfl⟩:=hown.slice
  refine ⟨av,cv,w,?_,⟨by simpa using hown,⟨rfl,rfl,rfl,Nat.le_refl _,fun _ _ _=>rfl⟩,fun k hk=>.inr hk⟩⟩
  rcases hown.form with ⟨e1,e2⟩ | ⟨g,cap,e1,hc,_⟩
  ·simp only [Value.slice.injEq] at e1
   obtain ⟨rfl,e3,rfl⟩:=e1
   cases a <;> simp [Builtin.append_,run_underlying ht,sizeOf,typeInfo,hi,Builtin.lenOf,Builtin.firstCells,loadCells,loadCellsFrom,e2]
  ·simp only [Value.slice.injEq] at e1
   obtain ⟨rfl,_,rfl⟩:=e1
   cases a <;> simp [Builtin.append_,run_underlying ht,sizeOf,typeInfo,hi,Builtin.lenOf,Builtin.firstCells,loadCells,loadCellsFrom,hc,storeCells]
 | cons r rs=>
  rw [<- hrows]
  have hpos:0 < S.length:=by rw [hrows];simp
  rcases hr with hr | ⟨b,off,rfl,hr⟩
  ·rw [hr] at hpos;simp at hpos
  exact run_append_sl (P:=P) w t ty e i z size bytes ht hi hz hsize hby hzs hsz v R hown ⟨b,off,none⟩ S.length c S rfl hpos hs.len
    (fun j u hu=>by rw [Addr.add_mid];exact hr j u hu) (fun u hu=>by obtain ⟨x,hx,hux⟩:=List.mem_flatten.1 hu;exact hs.one x hx u hux) h63 hbytes
theorem wpList_append_any {ops:Array Oper}{rest:List Oper}{o:Oper}{ac:Act}{Q:Exit->Act->World->Prop}(hgd:o.guard=none) (s x:Operand) (t:TypeId)
  (ho:o.op=.call { callee:=.builtin .append,args:=#[s,x],argTypes:=#[t,t] })
  (e:TypeId) (i:TypeInfo) (z:Value) (size bytes:Nat) (ht:P.underlying t=some (.slice e)) (hi:P.info? e=some i) (hz:i.zero=some z)
  (hsize:i.size=size) (hby:i.bytes=bytes) (hzs:z.cells.size=size) (hsz:0 < size)
  (v:Value) (R:List (List Value)) (hv:ac.eval s=v) (hown:Sl w e size v R) (a:Option Addr) (m c:Nat) (S:List (List Value)) (hx:ac.eval x=.slice a m c) (hs:Inl w size (.slice a m c) S)
  (h63:R.length+S.length<=maxLen) (hbytes:(R.length+S.length)*bytes<=140737488355328)
  (h:∀ a' c' w',Grew e size v w (.slice a' (R.length+S.length) c') (R ++ S) w'->wpList P ops Q rest (ac.put o.dst (.slice a' (R.length+S.length) c')) w'):wpList P ops Q (o :: rest) ac w:=by
 obtain ⟨a',c',w',hr,hG⟩:=run_append_any (P:=P) w t o.type e i z size bytes ht hi hz hsize hby hzs hsz v R hown a m c S hs h63 hbytes
 refine wpList_plain hgd fun _ hK=>?_
 unfold Oper.wp execOp
 simp only [ho,resolve,invoke,builtin,Sem.run_bind,Sem.run_pure,Result.andThen_ok,List.map_toArray,List.map_cons,List.map_nil,hv,hx,hr]
 exact hK _ _ (h a' c' w' hG)
end
theorem wpList_append_n {P:Program}(w:World){ops:Array Oper}{rest:List Oper}{o:Oper}{ac:Act}{Q:Exit->Act->World->Prop}(hgd:o.guard=none) (s x:Operand) (t:TypeId)
  (ho:o.op=.call { callee:=.builtin .append,args:=#[s,x],argTypes:=#[t,t] })
  (e:TypeId) (i:TypeInfo) (z:Value) (size bytes:Nat) (ht:P.underlying t=some (.slice e)) (hi:P.info? e=some i) (hz:i.zero=some z)
  (hsize:i.size=size) (hby:i.bytes=bytes) (hzs:z.cells.size=size) (hsz:0 < size)
  (v:Value) (R:List (List Value)) (hv:ac.eval s=v) (hown:Sl w e size v R) (a:Option Addr) (m c:Nat) (S:List (List Value)) (hx:ac.eval x=.slice a m c) (hs:Inl w size (.slice a m c) S)
  (n:Nat) (hn:R.length+S.length=n) (h63:n<=maxLen) (hbytes:n*bytes<=140737488355328)
  (h:∀ a' c' w',Grew e size v w (.slice a' n c') (R ++ S) w'->wpList P ops Q rest (ac.put o.dst (.slice a' n c')) w'):wpList P ops Q (o :: rest) ac w:=by
 subst hn
 exact wpList_append_any w hgd s x t ho e i z size bytes ht hi hz hsize hby hzs hsz v R hv hown a m c S hx hs h63 hbytes h
theorem Sl.part {w:World}{e:TypeId}{size:Nat}{g n c:Nat}{rows:List (List Value)}(h:Sl w e size (.slice (some ⟨g,0,none⟩) n c) rows) (h1:∀ r∈rows,∀ u∈r,u.oneCell'=true) (k m c':Nat) (hm:(rows.drop k).take m=[]\/k+m<=rows.length) (hlen:((rows.drop k).take m).length=m) (hx:rows.length<=maxLen) :
  Inl w size (.slice (some ⟨g,k*size,none⟩) m c') ((rows.drop k).take m):=by
 refine ⟨fun r hr=>h.len r (List.mem_of_mem_drop (List.mem_of_mem_take hr)),fun r hr=>h1 r (List.mem_of_mem_drop (List.mem_of_mem_take hr)),⟨_,c',by rw [hlen],?_,.inr ⟨g,k*size,rfl,?_⟩⟩⟩
 ·rw [hlen];rcases hm with hm | hm
  ·rw [hm] at hlen;simp at hlen;omega
  ·omega
 ·intro j u hu
  have hl:∀ r∈rows,r.length=size:=h.len
  have:=h.own.cells (g:=g) rfl (k*size+j) u ?_
  ·rw [Addr.add_mid,Nat.zero_add] at this;exact this
  ·have e1:rows.flatten=(rows.take k).flatten ++ ((rows.drop k).take m).flatten ++ ((rows.drop k).drop m).flatten:=by
    rw [<- List.flatten_append,<- List.flatten_append,List.append_assoc,List.take_append_drop,List.take_append_drop]
   have e2:j < ((rows.drop k).take m).flatten.length:=(List.getElem?_eq_some_iff.1 hu).1
   by_cases hk:k<=rows.length
   ·have e3:(rows.take k).flatten.length=k*size:=by
     rw [flatten_len _ (fun r hr=>hl r (List.mem_of_mem_take hr))];simp [Nat.min_eq_left hk]
    rw [e1,List.append_assoc,List.getElem?_append_right (by omega),e3,Nat.add_sub_cancel_left,List.getElem?_append_left e2]
    exact hu
   ·rw [List.drop_of_length_le (by omega)] at hu;simp at hu
open Go.RowKit
def outQ (L:List (Int×Int×Int×Int)) (s n:Int):List (Int×Int×Int×Int):=L.filter (fun p=>!(p.1 == s && p.2.1 == n))
open Go.RowKit
theorem apart_iff (L:List (Int×Int×Int×Int)):Apart L↔L.Pairwise (fun q p=>¬ (q.1=p.1/\q.2.1=p.2.1)):=by
 rw [List.pairwise_iff_getElem]
 constructor
 ·intro h i j hi hj hij
  exact h j i _ _ hij (List.getElem?_eq_getElem hj) (List.getElem?_eq_getElem hi)
 ·intro h i k p q hk hp hq
  obtain ⟨hi,rfl⟩:=List.getElem?_eq_some_iff.1 hp
  obtain ⟨hk',rfl⟩:=List.getElem?_eq_some_iff.1 hq
  exact h k i hk' hi hk
theorem outQ_find (L:List (Int×Int×Int×Int)) (s n s' n':Int):findQ (outQ L s n) s' n'=if s=s'/\n=n' then none else findQ L s' n':=by
 unfold findQ outQ
 rw [List.find?_filter]
 by_cases h:s=s'/\n=n'
 ·rw [if_pos h,List.find?_eq_none]
  intro q _
  obtain ⟨rfl,rfl⟩:=h
  cases (q.1 == s && q.2.1 == n) <;> simp
 ·rw [if_neg h]
  congr 1
  funext q
  by_cases e:q.1=s'/\q.2.1=n'
  ·have:¬ (s'=s/\n'=n):=fun g=>h ⟨g.1.symm,g.2.symm⟩
   rw [e.1,e.2]
   by_cases f:s'=s
   ·have g:¬ n'=n:=fun g=>this ⟨f,g⟩
    simp [g]
   ·simp [f]
  ·have:(q.1 == s' && q.2.1 == n')=false:=by
    rw [Bool.and_eq_false_iff]
    by_cases f:q.1=s'
    ·right;simp;exact fun g=>e ⟨f,g⟩
    ·left;simpa using f
   simp [this]
def putQ:List (Int×Int×Int×Int)->Int->Int->Int->Int->List (Int×Int×Int×Int)
 | [],s,n,t,r=>[(s,n,t,r)]
 | q :: L,s,n,t,r=>if q.1=s/\q.2.1=n then (s,n,t,r) :: L else q :: putQ L s n t r
theorem eq2_false {a b s n:Int}(h:¬ (a=s/\b=n)):(a == s && b == n)=false:=by
 rw [Bool.and_eq_false_iff]
 by_cases f:a=s
 ·right;simp;exact fun g=>h ⟨f,g⟩
 ·left;simpa using f
theorem putQ_find (L:List (Int×Int×Int×Int)) (s n t r s' n':Int):findQ (putQ L s n t r) s' n'=if s=s'/\n=n' then some (s,n,t,r) else findQ L s' n':=by
 induction L with
 | nil=>
  unfold findQ
  by_cases h:s=s'/\n=n'
  ·rw [if_pos h];simp [putQ,h.1,h.2]
  ·rw [if_neg h]
   simp only [putQ,List.find?_cons,List.find?_nil,eq2_false h]
 | cons q L ih=>
  unfold findQ at ih ⊢
  rw [putQ]
  by_cases e:q.1=s/\q.2.1=n
  ·rw [if_pos e,List.find?_cons,List.find?_cons,e.1,e.2]
   by_cases h:s=s'/\n=n'
   ·rw [if_pos h];simp [h.1,h.2]
   ·rw [if_neg h]
    dsimp only
    rw [eq2_false h]
  ·rw [if_neg e,List.find?_cons,List.find?_cons,ih]
   by_cases h:s=s'/\n=n'
   ·rw [if_pos h,if_pos h,eq2_false (by rw [<- h.1,<- h.2];exact e)]
   ·rw [if_neg h,if_neg h]
open Go.RowKit
open Go.RowKit
open Go.RowKit
structure Th where
 sp:Int
 row:Int
 st:Int
 ord:Int
 left:Int
 dst:Int
 mw:List Int
 item:Int
 rt:Int
 frm:Int
 win:Int
 wait:Int
 lends:Bool
 other:Int
 turn:Int
 time:Int
 code:Int
 who:Int
 ws:List Int
 got:Int
structure Lf where
 sp:Int
 pg:Int
 fr:Int
 rt:Int
 usp:Int
 upg:Int
structure RM where
 threads:List Th
 sp:Int
 passes:List (Int×Int×Int×Int)
 leaves:List Lf
 fr:Nat->Int
 clock:Int
 first:Int
 last:Int
structure Sv where
 a:Option Addr
 n:Nat
 c:Nat
abbrev Sv.v (s:Sv):Value:=.slice s.a s.n s.c
def Sv.nil:Sv:=⟨none,0,0⟩
def lnI (z:Int):List Value:=[.int .i64 z]
theorem set_self {α:Type}{l:List α}{i:Nat}{a:α}(h:l[i]? = some a):l.set i a=l:=by
 apply List.ext_getElem?
 intro j
 rw [List.getElem?_set]
 by_cases e:i=j
 ·subst e
  rw [if_pos rfl,if_pos (List.getElem?_eq_some_iff.1 h).1,h]
 ·rw [if_neg e]
section
variable {w w':World}{y:Nat}{K:RM}{vt vp vl:Value}{sl:List (Sv×Sv)}
end
section
variable {w:World}{y:Nat}{K:RM}{g n c:Nat}{vp vl:Value}{sl:List (Sv×Sv)}
end
section
variable {w:World}{y:Nat}{K K':RM}{vt vp vl:Value}{sl:List (Sv×Sv)}
end
open Go.RowKit
def ordOf (ts:List (Int×Int×Int×Int)) (t:Nat):Int:=((ts[t]?).map (fun u=>u.2.2.1)).getD 0
structure Lined (ts:List (Int×Int×Int×Int)) (last:Int) (ln:Nat->List Nat):Prop where
 mem:∀ (r t:Nat),t∈ln r↔∃ u,ts[t]? = some u/\u.2.1=r
 sorted:∀ r,(ln r).Pairwise (fun a b=>ordOf ts a < ordOf ts b)
 row:∀ (t:Nat) u,ts[t]? = some u->0<=u.2.1/\u.2.1<=3
 last:∀ (t:Nat) u,ts[t]? = some u->u.2.2.1 < last
theorem Lined.nodup {ts:List (Int×Int×Int×Int)}{last:Int}{ln:Nat->List Nat}(h:Lined ts last ln) (r:Nat):(ln r).Nodup:=
 (h.sorted r).imp (fun h e=>by rw [e] at h;omega)
theorem Lined.lt {ts:List (Int×Int×Int×Int)}{last:Int}{ln:Nat->List Nat}(h:Lined ts last ln){r t:Nat}(ht:t∈ln r):t < ts.length:=by
 obtain ⟨u,hu,_⟩:=(h.mem r t).1 ht
 exact (List.getElem?_eq_some_iff.1 hu).1
def comeLast (ln:Nat->List Nat) (r t:Nat):Nat->List Nat:=fun s=>if s=r then (ln r).erase t ++ [t] else ln s
theorem Lined.add {ts:List (Int×Int×Int×Int)}{ln:Nat->List Nat}(h:Lined ts ts.length ln) (a:Int) (r:Nat) (hr:r<=3) (n:Int) :
  Lined (ts ++ [(a,(r:Int),(ts.length:Int),n)]) ((ts.length:Int)+1) (comeLast ln r ts.length):=by
 have hne:∀ s,ts.length ∉ ln s:=fun s hm=>Nat.lt_irrefl _ (h.lt hm)
 have hg:∀ i:Nat,(ts ++ [(a,(r:Int),(ts.length:Int),n)])[i]? = if i=ts.length then some (a,(r:Int),(ts.length:Int),n) else ts[i]?:=by
  intro i
  by_cases e:i=ts.length
  ·subst e;simp
  ·rw [if_neg e]
   rcases Nat.lt_or_ge i ts.length with hl | hl
   ·exact List.getElem?_append_left hl
   ·rw [List.getElem?_eq_none (by simp;omega),List.getElem?_eq_none hl]
 have hcl:∀ s,comeLast ln r ts.length s=if s=r then ln r ++ [ts.length] else ln s:=by
  intro s;unfold comeLast;rw [List.erase_of_not_mem (hne r)]
 refine ⟨?_,?_,?_,?_⟩
 ·intro s i
  rw [hcl,hg]
  by_cases hs:s=r
  ·subst hs
   rw [if_pos rfl,List.mem_append,List.mem_singleton,h.mem]
   by_cases e:i=ts.length
   ·subst e;simp
   ·simp [e]
  ·rw [if_neg hs,h.mem]
   by_cases e:i=ts.length
   ·subst e
    simp only [if_pos,Option.some.injEq,exists_eq_left']
    constructor
    ·rintro ⟨u,hu,_⟩
     simp at hu
    ·intro e;omega
   ·simp [e]
 ·intro s
  have hold:∀ s,(ln s).Pairwise (fun x y=>ordOf (ts ++ [(a,(r:Int),(ts.length:Int),n)]) x < ordOf (ts ++ [(a,(r:Int),(ts.length:Int),n)]) y):=by
   intro s
   refine (h.sorted s).imp_of_mem ?_
   intro x y hx hy hxy
   unfold ordOf at hxy ⊢
   rw [hg,hg,if_neg (show ¬ x=ts.length from fun e=>hne s (e ▸ hx)),if_neg (show ¬ y=ts.length from fun e=>hne s (e ▸ hy))]
   exact hxy
  rw [hcl]
  by_cases hs:s=r
  ·subst hs
   rw [if_pos rfl,List.pairwise_append]
   refine ⟨hold s,by simp,?_⟩
   intro x hx y hy
   rw [List.mem_singleton] at hy
   subst hy
   obtain ⟨u,hu,_⟩:=(h.mem s x).1 hx
   have:=h.last x u hu
   unfold ordOf
   rw [hg,hg,if_neg (show ¬ x=ts.length from fun e=>hne s (e ▸ hx)),if_pos rfl,hu]
   simpa using this
  ·rw [if_neg hs];exact hold s
 ·intro i v hv
  rw [hg] at hv
  by_cases e:i=ts.length
  ·rw [if_pos e] at hv;cases hv;simp;omega
  ·rw [if_neg e] at hv;exact h.row i v hv
 ·intro i v hv
  rw [hg] at hv
  by_cases e:i=ts.length
  ·rw [if_pos e] at hv;cases hv;simp;omega
  ·rw [if_neg e] at hv;have:=h.last i v hv;omega
theorem Lined.none:Lined [] 0 (fun _=>[]):=⟨by simp,by simp,by simp,by simp⟩
end Go.Proofs.YteejjgbeknnmeaaGreatDoor
