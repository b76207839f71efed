import Derived.Test.YteejjgbeknnmeaaGreatDoorG03
import Derived.Deep.QuietTactic
import Derived.BigQuiet
import Derived.BigRegion
import Derived.Deep.DeepCutAuto
import Derived.Test.YteejjgbeknnmeaaGreatDoorG02
import Derived.Lib.SliceRun
set_option maxRecDepth 100000
set_option maxHeartbeats 20000000
namespace Go.Proofs.YteejjgbeknnmeaaGreatDoor
open Go.RowKit
theorem val_int {a b:Int}(h:a=b):Value.int .i64 a=.int .i64 b:=by rw [h]
open Go.RowKit
open Go.RowKit
open Go.RowKit
theorem results_row_tmp {P:Program}{fn:Func}{p q:Tmp}{ty:TypeId}(h:fn.results=#[.cell p ty,.tmp q]) (tmps:Array Value) (w:World) (g:Nat) (t:TypeId) (cs:Array Value) (fr:Nat×Nat) (d:TypeDesc) (r:Value)
  (hp:tmps.getD p undef=.pointer (some ⟨g,0,none⟩)) (hg:w.heap[g]? = some (.cells cs t fr)) (hu:P.underlying ty=some d) (hd:(match d with | .struct _ | .array _ _=>true | _=>false)=true) (hi:(P.info? ty).map (·.size)=some cs.size) (hr:tmps.getD q undef=r) :
  (results fn tmps).run P w=.ok (.tuple #[.agg cs,r]) w:=by
 have hp':tmps[p]?.getD undef=.pointer (some ⟨g,0,none⟩):=by simpa using hp
 have hq':tmps[q]?.getD undef=r:=by simpa using hr
 simp [results,h,hp',hq',asAddr,run_loadVar_row w g t ty cs fr d hg hu hd hi]
open Go.RowKit
def findQ (L:List (Int×Int×Int×Int)) (s n:Int):Option (Int×Int×Int×Int):=L.find? (fun p=>p.1 == s && p.2.1 == n)
def told (L:List (Int×Int×Int×Int)) (s:Int):Nat->List (Int×Int×Int×Int)
 | 0=>[]
 | k+1=>told L s k ++ (findQ L s k).toList
theorem find_of_ix {L:List (Int×Int×Int×Int)}(ha:Apart L){s n r:Int}(h:IxOf L s n r):(r=-1/\findQ L s n=none)\/∃ (i:Nat) (p:Int×Int×Int×Int),r=i/\L[i]? = some p/\findQ L s n=some p/\p.1=s/\p.2.1=n:=by
 rcases h with ⟨rfl,hno⟩ | ⟨i,p,rfl,hp,h1,h2⟩
 ·left
  refine ⟨rfl,?_⟩
  unfold findQ
  rw [List.find?_eq_none]
  intro q hq
  obtain ⟨j,hj⟩:=List.getElem?_of_mem hq
  have:=hno j q hj
  simpa using this
 ·right
  refine ⟨i,p,rfl,hp,?_,h1,h2⟩
  unfold findQ
  cases hf:L.find? (fun p=>p.1 == s && p.2.1 == n) with
  | none=>
   rw [List.find?_eq_none] at hf
   have:=hf p (List.mem_of_getElem? hp)
   simp [h1,h2] at this
  | some q=>
   have hq:=List.find?_some hf
   obtain ⟨j,hj⟩:=List.getElem?_of_mem (List.mem_of_find?_eq_some hf)
   simp at hq
   rcases Nat.lt_trichotomy i j with hij | hij | hij
   ·exact absurd ⟨by rw [h1,hq.1],by rw [h2,hq.2]⟩ (ha j i q p hij hj hp)
   ·subst hij;rw [hp] at hj;exact hj.symm
   ·exact absurd ⟨by rw [h1,hq.1],by rw [h2,hq.2]⟩ (ha i j p q hij hp hj)
theorem told_le (L:List (Int×Int×Int×Int)) (s:Int):∀ k,(told L s k).length<=k
 | 0=>by simp [told]
 | k+1=>by
  have:=told_le L s k
  simp only [told,List.length_append]
  cases findQ L s k <;> simp <;> omega
open Go.RowKit
def exT:List (Int×Int):=[(0,1),(1,1)]
def exQ:List (Int×Int×Int×Int):=[(0,0,1,3),(1,0,0,1)]
def exL:List (Int×Int×Int×Int):=[(0,2,3,3)]
theorem new4 (w:World) (A B C D:Obj) :
  ((((w.alloc A).alloc B).alloc C).alloc D).heap[w.heap.size]? = some A/\((((w.alloc A).alloc B).alloc C).alloc D).heap[w.heap.size+1]? = some B /\
  ((((w.alloc A).alloc B).alloc C).alloc D).heap[w.heap.size+1+1]? = some C/\((((w.alloc A).alloc B).alloc C).alloc D).heap[w.heap.size+1+1+1]? = some D:=by
 simp only [heap_push,Array.getElem?_push,Array.size_push]
 refine ⟨?_,?_,?_,?_⟩ <;> (repeat (first | rw [if_pos (by first | trivial | omega)] | rw [if_neg (by omega)]))
theorem inl_lit {w:World}{g size n:Nat}{rows:List (List Value)}{e:TypeId}{cs:Array Value}(hb:w.heap[g]? = some (.cells cs e (0,0))) (hc:cs.toList=rows.flatten) (hn:rows.length=n) (hl:∀ r∈rows,r.length=size) (h1:∀ r∈rows,∀ u∈r,u.oneCell'=true) (hm:n<=maxLen) :
  Inl w size (.slice (some ⟨g,0,none⟩) n n) rows:=by
 subst hn
 refine ⟨hl,h1,some ⟨g,0,none⟩,rows.length,rfl,hm,.inr ⟨g,0,rfl,fun j v hv=>?_⟩⟩
 rw [Nat.zero_add,cell_of_row w g j cs e (0,0) hb,<- hv,<- hc]
 simp
theorem example_any (w:World) :
  Calls Tryz.prog 35 #[] w fun e w'=>∃ b1 b2 b3,e=.returned (.agg #[.int .i64 2,.slice (some ⟨b1,0,none⟩) 2 2,.slice (some ⟨b2,0,none⟩) 2 2,.slice (some ⟨b3,0,none⟩) 1 1]) /\
   Inl w' 2 (.slice (some ⟨b1,0,none⟩) 2 2) (exT.map tRow)/\Inl w' 4 (.slice (some ⟨b2,0,none⟩) 2 2) (exQ.map qRow)/\Inl w' 4 (.slice (some ⟨b3,0,none⟩) 1 1) (exL.map qRow)/\Below w.heap.size w w'/\w.heap.size<=b1/\w.heap.size<=b2/\w.heap.size<=b3:=by
 go_enter Tryz.func35,Tryz.ntmps35
 go_wp2
 have h4:=new4 w (.cells #[.int .i64 2,.slice (some ⟨w.heap.size+1,0,none⟩) 2 2,.slice (some ⟨w.heap.size+1+1,0,none⟩) 2 2,.slice (some ⟨w.heap.size+1+1+1,0,none⟩) 1 1] 32) (.cells #[.int .i64 0,.int .i64 1,.int .i64 1,.int .i64 1] 34) (.cells #[.int .i64 0,.int .i64 0,.int .i64 1,.int .i64 3,.int .i64 1,.int .i64 0,.int .i64 0,.int .i64 1] 55) (.cells #[.int .i64 0,.int .i64 2,.int .i64 3,.int .i64 3] 67)
 refine bodyPost_ret (v:=.agg #[.int .i64 2,.slice (some ⟨w.heap.size+1,0,none⟩) 2 2,.slice (some ⟨w.heap.size+1+1,0,none⟩) 2 2,.slice (some ⟨w.heap.size+1+1+1,0,none⟩) 1 1]) (results_cell_row Tryz.results35 _ _ w.heap.size 32 _ (0,0) _ rfl h4.1 Tryz.underlying32 rfl (by kernel_rfl)) rfl ⟨_,_,_,rfl,inl_lit h4.2.1 rfl rfl ?_ ?_ (by decide),inl_lit h4.2.2.1 rfl rfl ?_ ?_ (by decide),inl_lit h4.2.2.2 rfl rfl ?_ ?_ (by decide),?_,by omega,by omega,by omega⟩
 all_goals try (intro r hr;simp [exT,exQ,exL,tRow,qRow] at hr;rcases hr with rfl | rfl <;> first | rfl | (intro u hu;simp at hu;rcases hu with rfl | rfl | rfl | rfl <;> rfl) | (intro u hu;simp at hu;rcases hu with rfl | rfl <;> rfl) | (intro u hu;simp at hu;subst hu;rfl) | (intro u hu;simp at hu;rcases hu with rfl | rfl | rfl <;> rfl))
 all_goals try (intro r hr;simp [exT,exQ,exL,tRow,qRow] at hr;subst hr;first | rfl | (intro u hu;simp at hu;rcases hu with rfl | rfl | rfl <;> rfl))
 exact ((((Below.refl _ w).alloc (Nat.le_refl _) _).alloc (by simp) _).alloc (by simp;omega) _).alloc (by simp;omega) _
open Go.RowKit
def hasRt (r a:Int):Bool:=r == 3 || r == a
def frSet (fr:Nat->Int) (j:Nat) (n:Int) (i:Nat):Int:=if i=j then n else fr i
open Go.RowKit
open Go.RowKit
section
variable {P:Program}(w:World)
theorem run_append_any (t ty e:TypeId) (i:TypeInfo) (z:Value) (size bytes:Nat) (ht:P.underlying t=some (.slice e)) (hi:P.info? e=some i) (hz:i.zero=some z)
  (hsize:i.size=size) (hby:i.bytes=bytes) (hzs:z.cells.size=size) (hsz:0 < size) (v:Value) (R:List (List Value)) (hown:Sl w e size v R) (a:Option Addr) (m c:Nat) (S:List (List Value)) (hs:Inl w size (.slice a m c) S)
  (h63:R.length+S.length<=maxLen) (hbytes:(R.length+S.length)*bytes<=140737488355328) :
  ∃ a' c' w',(Builtin.append_ #[t,t] ty #[v,.slice a m c]).run P w=.ok (.slice a' (R.length+S.length) c') w'/\Grew e size v w (.slice a' (R.length+S.length) c') (R ++ S) w':=by
 obtain ⟨a0,c0,ev,hm,hr⟩:=hs.form
 simp only [Value.slice.injEq] at ev
 obtain ⟨rfl,rfl,rfl⟩:=ev
 cases hrows:S with
 | nil=>
  subst hrows
  obtain ⟨av,cv,rfl⟩:=hown.slice
  refine ⟨av,cv,w,?_,⟨by simpa using hown,⟨rfl,rfl,rfl,Nat.le_refl _,fun _ _ _=>rfl⟩,fun k hk=>.inr hk⟩⟩
  rcases hown.form with ⟨e1,e2⟩ | ⟨g,cap,e1,hc,_⟩
  ·simp only [Value.slice.injEq] at e1
   obtain ⟨rfl,e3,rfl⟩:=e1
   cases a <;> simp [Builtin.append_,run_underlying ht,sizeOf,typeInfo,hi,Builtin.lenOf,Builtin.firstCells,loadCells,loadCellsFrom,e2]
  ·simp only [Value.slice.injEq] at e1
   obtain ⟨rfl,_,rfl⟩:=e1
   cases a <;> simp [Builtin.append_,run_underlying ht,sizeOf,typeInfo,hi,Builtin.lenOf,Builtin.firstCells,loadCells,loadCellsFrom,hc,storeCells]
 | cons r rs=>
  rw [<- hrows]
  have hpos:0 < S.length:=by rw [hrows];simp
  rcases hr with hr | ⟨b,off,rfl,hr⟩
  ·rw [hr] at hpos;simp at hpos
  exact run_append_sl (P:=P) w t ty e i z size bytes ht hi hz hsize hby hzs hsz v R hown ⟨b,off,none⟩ S.length c S rfl hpos hs.len
    (fun j u hu=>by rw [Addr.add_mid];exact hr j u hu) (fun u hu=>by obtain ⟨x,hx,hux⟩:=List.mem_flatten.1 hu;exact hs.one x hx u hux) h63 hbytes
theorem wpList_append_any {ops:Array Oper}{rest:List Oper}{o:Oper}{ac:Act}{Q:Exit->Act->World->Prop}(hgd:o.guard=none) (s x:Operand) (t:TypeId)
  (ho:o.op=.call { callee:=.builtin .append,args:=#[s,x],argTypes:=#[t,t] })
  (e:TypeId) (i:TypeInfo) (z:Value) (size bytes:Nat) (ht:P.underlying t=some (.slice e)) (hi:P.info? e=some i) (hz:i.zero=some z)
  (hsize:i.size=size) (hby:i.bytes=bytes) (hzs:z.cells.size=size) (hsz:0 < size)
  (v:Value) (R:List (List Value)) (hv:ac.eval s=v) (hown:Sl w e size v R) (a:Option Addr) (m c:Nat) (S:List (List Value)) (hx:ac.eval x=.slice a m c) (hs:Inl w size (.slice a m c) S)
  (h63:R.length+S.length<=maxLen) (hbytes:(R.length+S.length)*bytes<=140737488355328)
  (h:∀ a' c' w',Grew e size v w (.slice a' (R.length+S.length) c') (R ++ S) w'->wpList P ops Q rest (ac.put o.dst (.slice a' (R.length+S.length) c')) w'):wpList P ops Q (o :: rest) ac w:=by
 obtain ⟨a',c',w',hr,hG⟩:=run_append_any (P:=P) w t o.type e i z size bytes ht hi hz hsize hby hzs hsz v R hown a m c S hs h63 hbytes
 refine wpList_plain hgd fun _ hK=>?_
 unfold Oper.wp execOp
 simp only [ho,resolve,invoke,builtin,Sem.run_bind,Sem.run_pure,Result.andThen_ok,List.map_toArray,List.map_cons,List.map_nil,hv,hx,hr]
 exact hK _ _ (h a' c' w' hG)
end
theorem wpList_append_n {P:Program}(w:World){ops:Array Oper}{rest:List Oper}{o:Oper}{ac:Act}{Q:Exit->Act->World->Prop}(hgd:o.guard=none) (s x:Operand) (t:TypeId)
  (ho:o.op=.call { callee:=.builtin .append,args:=#[s,x],argTypes:=#[t,t] })
  (e:TypeId) (i:TypeInfo) (z:Value) (size bytes:Nat) (ht:P.underlying t=some (.slice e)) (hi:P.info? e=some i) (hz:i.zero=some z)
  (hsize:i.size=size) (hby:i.bytes=bytes) (hzs:z.cells.size=size) (hsz:0 < size)
  (v:Value) (R:List (List Value)) (hv:ac.eval s=v) (hown:Sl w e size v R) (a:Option Addr) (m c:Nat) (S:List (List Value)) (hx:ac.eval x=.slice a m c) (hs:Inl w size (.slice a m c) S)
  (n:Nat) (hn:R.length+S.length=n) (h63:n<=maxLen) (hbytes:n*bytes<=140737488355328)
  (h:∀ a' c' w',Grew e size v w (.slice a' n c') (R ++ S) w'->wpList P ops Q rest (ac.put o.dst (.slice a' n c')) w'):wpList P ops Q (o :: rest) ac w:=by
 subst hn
 exact wpList_append_any w hgd s x t ho e i z size bytes ht hi hz hsize hby hzs hsz v R hv hown a m c S hx hs h63 hbytes h
theorem Sl.part {w:World}{e:TypeId}{size:Nat}{g n c:Nat}{rows:List (List Value)}(h:Sl w e size (.slice (some ⟨g,0,none⟩) n c) rows) (h1:∀ r∈rows,∀ u∈r,u.oneCell'=true) (k m c':Nat) (hm:(rows.drop k).take m=[]\/k+m<=rows.length) (hlen:((rows.drop k).take m).length=m) (hx:rows.length<=maxLen) :
  Inl w size (.slice (some ⟨g,k*size,none⟩) m c') ((rows.drop k).take m):=by
 refine ⟨fun r hr=>h.len r (List.mem_of_mem_drop (List.mem_of_mem_take hr)),fun r hr=>h1 r (List.mem_of_mem_drop (List.mem_of_mem_take hr)),⟨_,c',by rw [hlen],?_,.inr ⟨g,k*size,rfl,?_⟩⟩⟩
 ·rw [hlen];rcases hm with hm | hm
  ·rw [hm] at hlen;simp at hlen;omega
  ·omega
 ·intro j u hu
  have hl:∀ r∈rows,r.length=size:=h.len
  have:=h.own.cells (g:=g) rfl (k*size+j) u ?_
  ·rw [Addr.add_mid,Nat.zero_add] at this;exact this
  ·have e1:rows.flatten=(rows.take k).flatten ++ ((rows.drop k).take m).flatten ++ ((rows.drop k).drop m).flatten:=by
    rw [<- List.flatten_append,<- List.flatten_append,List.append_assoc,List.take_append_drop,List.take_append_drop]
   have e2:j < ((rows.drop k).take m).flatten.length:=(List.getElem?_eq_some_iff.1 hu).1
   by_cases hk:k<=rows.length
   ·have e3:(rows.take k).flatten.length=k*size:=by
     rw [flatten_len _ (fun r hr=>hl r (List.mem_of_mem_take hr))];simp [Nat.min_eq_left hk]
    rw [e1,List.append_assoc,List.getElem?_append_right (by omega),e3,Nat.add_sub_cancel_left,List.getElem?_append_left e2]
    exact hu
   ·rw [List.drop_of_length_le (by omega)] at hu;simp at hu
theorem Sl.after {w:World}{e:TypeId}{size:Nat}{g n c:Nat}{rows:List (List Value)}(h:Sl w e size (.slice (some ⟨g,0,none⟩) n c) rows) (h1:∀ r∈rows,∀ u∈r,u.oneCell'=true) (k:Nat) (hk:k<=rows.length) (hc:rows.length<=c) (hx:rows.length<=maxLen) :
  Inl w size (.slice (if c=k then some ⟨g,0,none⟩ else some ⟨g,k*size,none⟩) (rows.length-k) (c-k)) (rows.drop k):=by
 by_cases e:c=k
 ·have e0:rows.drop k=[]:=List.drop_of_length_le (by omega)
  rw [e0,show rows.length-k=0 by omega]
  exact ⟨fun r hr=>by simp at hr,fun r hr=>by simp at hr,⟨_,_,rfl,by simp,.inl rfl⟩⟩
 ·rw [if_neg e]
  have e1:(rows.drop k).take (rows.length-k)=rows.drop k:=List.take_of_length_le (by simp)
  have:=h.part h1 k (rows.length-k) (c-k) (.inr (by omega)) (by rw [e1];simp) hx
  rw [e1] at this
  exact this
open Go.RowKit
def outQ (L:List (Int×Int×Int×Int)) (s n:Int):List (Int×Int×Int×Int):=L.filter (fun p=>!(p.1 == s && p.2.1 == n))
theorem outQ_ix {L:List (Int×Int×Int×Int)}(ha:Apart L){s n:Int}:∀ {i:Nat}{p:Int×Int×Int×Int},L[i]? = some p->p.1=s->p.2.1=n->L.take i ++ L.drop (i+1)=outQ L s n:=by
 induction L with
 | nil=>intro i p h;simp at h
 | cons q L ih=>
  have ha':Apart L:=fun i k p q hk h1 h2=>ha (i+1) (k+1) p q (by omega) (by simpa using h1) (by simpa using h2)
  intro i p h e1 e2
  cases i with
  | zero=>
   simp only [List.getElem?_cons_zero,Option.some.injEq] at h
   subst h
   have:L.filter (fun p=>!(p.1 == s && p.2.1 == n))=L:=by
    rw [List.filter_eq_self]
    intro x hx
    obtain ⟨k,hk⟩:=List.getElem?_of_mem hx
    have:=ha (k+1) 0 x q (by omega) (by simpa using hk) (by simp)
    simp only [e1,e2] at this
    simp only [Bool.not_eq_true',Bool.and_eq_false_iff,beq_eq_false_iff_ne]
    by_cases f:x.1=s
    ·right;intro g;exact this ⟨f.symm,g.symm⟩
    ·left;exact f
   simp only [outQ,List.take_zero,List.nil_append,Nat.zero_add,List.drop_succ_cons,List.drop_zero]
   rw [List.filter_cons_of_neg (by simp [e1,e2]),this]
  | succ i=>
   have hq:¬ (q.1=s/\q.2.1=n):=fun hq=>ha (i+1) 0 p q (by omega) h (by simp) ⟨hq.1.trans e1.symm,hq.2.trans e2.symm⟩
   have:=ih ha' (i:=i) (p:=p) (by simpa using h) e1 e2
   simp only [outQ] at this ⊢
   rw [List.filter_cons_of_pos (by
    by_cases f:q.1=s
    ·have g:¬ q.2.1=n:=fun g=>hq ⟨f,g⟩
     simp [g]
    ·simp [f]),<- this]
   simp
open Go.RowKit
theorem apart_iff (L:List (Int×Int×Int×Int)):Apart L↔L.Pairwise (fun q p=>¬ (q.1=p.1/\q.2.1=p.2.1)):=by
 rw [List.pairwise_iff_getElem]
 constructor
 ·intro h i j hi hj hij
  exact h j i _ _ hij (List.getElem?_eq_getElem hj) (List.getElem?_eq_getElem hi)
 ·intro h i k p q hk hp hq
  obtain ⟨hi,rfl⟩:=List.getElem?_eq_some_iff.1 hp
  obtain ⟨hk',rfl⟩:=List.getElem?_eq_some_iff.1 hq
  exact h k i hk' hi hk
theorem outQ_apart {L:List (Int×Int×Int×Int)}(h:Apart L) (s n:Int):Apart (outQ L s n):=by
 rw [apart_iff] at h ⊢
 exact h.filter _
theorem outQ_mem {L:List (Int×Int×Int×Int)}{s n:Int}{p:Int×Int×Int×Int}{i:Nat}(h:(outQ L s n)[i]? = some p):∃ j:Nat,L[j]? = some p:=
 List.getElem?_of_mem (List.mem_filter.1 (List.mem_of_getElem? h)).1
theorem outQ_find (L:List (Int×Int×Int×Int)) (s n s' n':Int):findQ (outQ L s n) s' n'=if s=s'/\n=n' then none else findQ L s' n':=by
 unfold findQ outQ
 rw [List.find?_filter]
 by_cases h:s=s'/\n=n'
 ·rw [if_pos h,List.find?_eq_none]
  intro q _
  obtain ⟨rfl,rfl⟩:=h
  cases (q.1 == s && q.2.1 == n) <;> simp
 ·rw [if_neg h]
  congr 1
  funext q
  by_cases e:q.1=s'/\q.2.1=n'
  ·have:¬ (s'=s/\n'=n):=fun g=>h ⟨g.1.symm,g.2.symm⟩
   rw [e.1,e.2]
   by_cases f:s'=s
   ·have g:¬ n'=n:=fun g=>this ⟨f,g⟩
    simp [g]
   ·simp [f]
  ·have:(q.1 == s' && q.2.1 == n')=false:=by
    rw [Bool.and_eq_false_iff]
    by_cases f:q.1=s'
    ·right;simp;exact fun g=>e ⟨f,g⟩
    ·left;simpa using f
   simp [this]
def putQ:List (Int×Int×Int×Int)->Int->Int->Int->Int->List (Int×Int×Int×Int)
 | [],s,n,t,r=>[(s,n,t,r)]
 | q :: L,s,n,t,r=>if q.1=s/\q.2.1=n then (s,n,t,r) :: L else q :: putQ L s n t r
theorem putQ_ix {L:List (Int×Int×Int×Int)}{s n:Int}(t r:Int):∀ {i:Nat}{p:Int×Int×Int×Int},Apart L->L[i]? = some p->p.1=s->p.2.1=n->L.set i (s,n,t,r)=putQ L s n t r:=by
 induction L with
 | nil=>intro i p _ h;simp at h
 | cons q L ih=>
  intro i p ha h e1 e2
  have ha':Apart L:=fun i k p q hk h1 h2=>ha (i+1) (k+1) p q (by omega) (by simpa using h1) (by simpa using h2)
  cases i with
  | zero=>
   simp only [List.getElem?_cons_zero,Option.some.injEq] at h
   subst h
   rw [putQ,if_pos ⟨e1,e2⟩];rfl
  | succ i=>
   have hq:¬ (q.1=s/\q.2.1=n):=fun hq=>ha (i+1) 0 p q (by omega) h (by simp) ⟨hq.1.trans e1.symm,hq.2.trans e2.symm⟩
   rw [putQ,if_neg hq,<- ih (i:=i) (p:=p) ha' (by simpa using h) e1 e2];rfl
theorem putQ_new {L:List (Int×Int×Int×Int)}{s n:Int}(t r:Int) (h:findQ L s n=none):L ++ [(s,n,t,r)]=putQ L s n t r:=by
 induction L with
 | nil=>rfl
 | cons q L ih=>
  unfold findQ at h ih
  rw [List.find?_cons] at h
  by_cases e:q.1=s/\q.2.1=n
  ·simp [e.1,e.2] at h
  ·have:(q.1 == s && q.2.1 == n)=false:=by
    rw [Bool.and_eq_false_iff]
    by_cases f:q.1=s
    ·right;simp;exact fun g=>e ⟨f,g⟩
    ·left;simpa using f
   rw [this] at h
   rw [putQ,if_neg e,<- ih h];rfl
theorem putQ_mem {L:List (Int×Int×Int×Int)}{s n t r:Int}{p:Int×Int×Int×Int}(h:p∈putQ L s n t r):p=(s,n,t,r)\/p∈L:=by
 induction L with
 | nil=>simp [putQ] at h;exact .inl h
 | cons q L ih=>
  rw [putQ] at h
  split at h
  ·rcases List.mem_cons.1 h with h | h
   ·exact .inl h
   ·exact .inr (List.mem_cons_of_mem _ h)
  ·rcases List.mem_cons.1 h with h | h
   ·exact .inr (by rw [h];exact List.mem_cons_self ..)
   ·rcases ih h with h | h
    ·exact .inl h
    ·exact .inr (List.mem_cons_of_mem _ h)
theorem putQ_apart {L:List (Int×Int×Int×Int)}(h:Apart L) (s n t r:Int):Apart (putQ L s n t r):=by
 rw [apart_iff] at h ⊢
 induction L with
 | nil=>simp [putQ]
 | cons q L ih=>
  rw [List.pairwise_cons] at h
  rw [putQ]
  split
  ·rename_i e
   rw [List.pairwise_cons]
   refine ⟨fun p hp g=>h.1 p hp ⟨e.1.trans g.1,e.2.trans g.2⟩,h.2⟩
  ·rename_i e
   rw [List.pairwise_cons]
   refine ⟨fun p hp=>?_,ih h.2⟩
   rcases putQ_mem hp with rfl | hp
   ·exact e
   ·exact h.1 p hp
theorem eq2_false {a b s n:Int}(h:¬ (a=s/\b=n)):(a == s && b == n)=false:=by
 rw [Bool.and_eq_false_iff]
 by_cases f:a=s
 ·right;simp;exact fun g=>h ⟨f,g⟩
 ·left;simpa using f
theorem putQ_find (L:List (Int×Int×Int×Int)) (s n t r s' n':Int):findQ (putQ L s n t r) s' n'=if s=s'/\n=n' then some (s,n,t,r) else findQ L s' n':=by
 induction L with
 | nil=>
  unfold findQ
  by_cases h:s=s'/\n=n'
  ·rw [if_pos h];simp [putQ,h.1,h.2]
  ·rw [if_neg h]
   simp only [putQ,List.find?_cons,List.find?_nil,eq2_false h]
 | cons q L ih=>
  unfold findQ at ih ⊢
  rw [putQ]
  by_cases e:q.1=s/\q.2.1=n
  ·rw [if_pos e,List.find?_cons,List.find?_cons,e.1,e.2]
   by_cases h:s=s'/\n=n'
   ·rw [if_pos h];simp [h.1,h.2]
   ·rw [if_neg h]
    dsimp only
    rw [eq2_false h]
  ·rw [if_neg e,List.find?_cons,List.find?_cons,ih]
   by_cases h:s=s'/\n=n'
   ·rw [if_pos h,if_pos h,eq2_false (by rw [<- h.1,<- h.2];exact e)]
   ·rw [if_neg h,if_neg h]
open Go.RowKit
def agN:Value->Nat
 | .bool true=>1
 | _=>0
open Go.RowKit
theorem bits_ne {r a:Int}(h:r=1\/r=2\/r=3) (ha:a=1\/a=2\/a=3):(bits .and .i64 r a != a)=!hasRt r a:=by
 rcases h with rfl | rfl | rfl <;> rcases ha with rfl | rfl | rfl <;> rfl
theorem Sl.put4 {w:World}{e:TypeId}{g n cap:Nat}{rows:List (List Value)}(h:Sl w e 4 (.slice (some ⟨g,0,none⟩) n cap) rows) (i:Nat) (hi:i < rows.length) (a0 a1 a2 a3:Value) :
  Sl ((((w.setCell ⟨g,i*4,none⟩ a0).setCell ⟨g,i*4+1,none⟩ a1).setCell ⟨g,i*4+2,none⟩ a2).setCell ⟨g,i*4+3,none⟩ a3) e 4 (.slice (some ⟨g,0,none⟩) n cap) (rows.set i [a0,a1,a2,a3]):=by
 have h0:=h.set i 0 a0 hi (by omega)
 have h1:=h0.set i 1 a1 (by simpa using hi) (by omega)
 have h2:=h1.set i 2 a2 (by simpa using hi) (by omega)
 have h3:=h2.set i 3 a3 (by simpa using hi) (by omega)
 have hl:=h.len rows[i] (List.getElem_mem hi)
 simp only [List.getElem_set_self,List.set_set,Nat.add_zero] at h3
 have e:(((rows[i].set 0 a0).set 1 a1).set 2 a2).set 3 a3=[a0,a1,a2,a3]:=by
  match hr:rows[i],hl with
  | [_,_,_,_],_=>rfl
 rw [e] at h3
 exact h3
open Go.RowKit
structure Th where
 sp:Int
 row:Int
 st:Int
 ord:Int
 left:Int
 dst:Int
 mw:List Int
 item:Int
 rt:Int
 frm:Int
 win:Int
 wait:Int
 lends:Bool
 other:Int
 turn:Int
 time:Int
 code:Int
 who:Int
 ws:List Int
 got:Int
structure Lf where
 sp:Int
 pg:Int
 fr:Int
 rt:Int
 usp:Int
 upg:Int
structure RM where
 threads:List Th
 sp:Int
 passes:List (Int×Int×Int×Int)
 leaves:List Lf
 fr:Nat->Int
 clock:Int
 first:Int
 last:Int
structure Sv where
 a:Option Addr
 n:Nat
 c:Nat
abbrev Sv.v (s:Sv):Value:=.slice s.a s.n s.c
def Sv.nil:Sv:=⟨none,0,0⟩
def trow (t:Th) (s:Sv×Sv):List Value:=[.int .i64 t.sp,.int .i64 t.row,.int .i64 t.st,.int .i64 t.ord,.int .i64 t.left,.int .i64 t.dst,.slice s.1.a s.1.n s.1.c,.int .i64 t.item,.int .i64 t.rt,.int .i64 t.frm,.int .i64 t.win,.int .i64 t.wait,.bool t.lends,.int .i64 t.other,.int .i64 t.turn,.int .i64 t.time,.int .i64 t.code,.int .i64 t.who,.slice s.2.a s.2.n s.2.c,.int .i64 t.got]
def lfRow (l:Lf):List Value:=[.int .i64 l.sp,.int .i64 l.pg,.int .i64 l.fr,.int .i64 l.rt,.int .i64 l.usp,.int .i64 l.upg]
def km (vt vp vl:Value) (sp:Int) (fr:Nat->Int) (cl fi la:Int):Array Value:=#[vt,.int .i64 sp,vp,vl,.int .i64 (fr 0),.int .i64 (fr 1),.int .i64 (fr 2),.int .i64 (fr 3),.int .i64 (fr 4),.int .i64 (fr 5),.int .i64 (fr 6),.int .i64 (fr 7),.int .i64 (fr 8),.int .i64 (fr 9),.int .i64 (fr 10),.int .i64 (fr 11),.int .i64 (fr 12),.int .i64 (fr 13),.int .i64 (fr 14),.int .i64 (fr 15),.int .i64 (fr 16),.int .i64 (fr 17),.int .i64 (fr 18),.int .i64 (fr 19),.int .i64 (fr 20),.int .i64 (fr 21),.int .i64 (fr 22),.int .i64 (fr 23),.int .i64 (fr 24),.int .i64 (fr 25),.int .i64 (fr 26),.int .i64 (fr 27),.int .i64 (fr 28),.int .i64 (fr 29),.int .i64 (fr 30),.int .i64 (fr 31),.int .i64 cl,.int .i64 fi,.int .i64 la]
def lnI (z:Int):List Value:=[.int .i64 z]
def trows (ts:List Th) (sl:List (Sv×Sv)):List (List Value):=List.zipWith trow ts sl
theorem trows_len {ts:List Th}{sl:List (Sv×Sv)}(h:sl.length=ts.length):(trows ts sl).length=ts.length:=by simp [trows,h]
theorem trows_get {ts:List Th}{sl:List (Sv×Sv)}{i:Nat}{t:Th}{s:Sv×Sv}(ht:ts[i]? = some t) (hs:sl[i]? = some s):(trows ts sl)[i]? = some (trow t s):=by
 simp [trows,List.getElem?_zipWith,ht,hs]
theorem trows_set {ts:List Th}{sl:List (Sv×Sv)}{i:Nat}{t:Th}{s:Sv×Sv}(f:Th->Th) (s':Sv×Sv) (ht:ts[i]? = some t) (hs:sl[i]? = some s):(trows ts sl).set i (trow (f t) s')=trows (ts.modify i f) (sl.set i s'):=by
 have h1:=(List.getElem?_eq_some_iff.1 ht).1
 have h2:=(List.getElem?_eq_some_iff.1 hs).1
 apply List.ext_getElem?
 intro j
 rw [List.getElem?_set]
 unfold trows
 by_cases e:i=j
 ·subst e
  rw [if_pos rfl,if_pos (by simp;omega),List.getElem?_zipWith,List.getElem?_modify,List.getElem?_set_self h2,ht]
  simp
 ·simp only [if_neg e,List.getElem?_zipWith,List.getElem?_modify,List.getElem?_set_ne e]
  simp
theorem set_self {α:Type}{l:List α}{i:Nat}{a:α}(h:l[i]? = some a):l.set i a=l:=by
 apply List.ext_getElem?
 intro j
 rw [List.getElem?_set]
 by_cases e:i=j
 ·subst e
  rw [if_pos rfl,if_pos (List.getElem?_eq_some_iff.1 h).1,h]
 ·rw [if_neg e]
def Wr (y:Nat) (vt vp vl:Value) (k:Nat):Prop:=k=y\/vt.ownBlock=some k\/vp.ownBlock=some k\/vl.ownBlock=some k
structure Wd (w:World) (y:Nat) (vt vp vl:Value) (s:Sv) (l:List Int):Prop where
 inl:Inl w 1 s.v (l.map lnI)
 at_:∀ k,inBlock s.v=some k->k < w.heap.size/\¬ Wr y vt vp vl k
theorem Wd.nil (w:World) (y:Nat) (vt vp vl:Value):Wd w y vt vp vl Sv.nil []:=⟨⟨by simp,by simp,none,0,rfl,by simp,.inl rfl⟩,fun k h=>by simp [inBlock,Sv.nil] at h⟩
theorem Wd.kept {w w':World}{y:Nat}{vt vp vl vt' vp' vl':Value}{s:Sv}{l:List Int}(h:Wd w y vt vp vl s l){S:Nat->Prop}(hf:Fr S w w') (hs:∀ k,k < w.heap.size->¬ Wr y vt vp vl k->¬ S k\/inBlock s.v≠some k) (hw:∀ k,k < w.heap.size->Wr y vt' vp' vl' k->Wr y vt vp vl k):Wd w' y vt' vp' vl' s l:=
 ⟨h.inl.kept (by omega) hf (fun k hk=>by rcases hs k (h.at_ k hk).1 (h.at_ k hk).2 with g | g;exact g;exact absurd hk g),fun k hk=>⟨Nat.lt_of_lt_of_le (h.at_ k hk).1 hf.size,fun g=>(h.at_ k hk).2 (hw k (h.at_ k hk).1 g)⟩⟩
structure RmAt (w:World) (y:Nat) (K:RM) (vt vp vl:Value) (sl:List (Sv×Sv)):Prop where
 blk:w.heap[y]? = some (.cells (km vt vp vl K.sp K.fr K.clock K.first K.last) 188 (0,0))
 ln:sl.length=K.threads.length
 th:Sl w 190 20 vt (trows K.threads sl)
 pa:Sl w 55 4 vp (K.passes.map qRow)
 le:Sl w 192 6 vl (K.leaves.map lfRow)
 wd:∀ (i:Nat) t s,K.threads[i]? = some t->sl[i]? = some s->Wd w y vt vp vl s.1 t.mw/\Wd w y vt vp vl s.2 t.ws
 n1:vt.ownBlock≠some y
 n2:vp.ownBlock≠some y
 n3:vl.ownBlock≠some y
 n4:∀ k,vt.ownBlock=some k->vp.ownBlock≠some k/\vl.ownBlock≠some k
 n5:∀ k,vp.ownBlock=some k->vl.ownBlock≠some k
def RmOwn (y:Nat) (vt vp vl:Value) (sl:List (Sv×Sv)) (k:Nat):Prop:=Wr y vt vp vl k\/∃ (i:Nat) (s:Sv×Sv),sl[i]? = some s/\(inBlock s.1.v=some k\/inBlock s.2.v=some k)
section
variable {w w':World}{y:Nat}{K:RM}{vt vp vl:Value}{sl:List (Sv×Sv)}
theorem RmAt.ly (h:RmAt w y K vt vp vl sl):y < w.heap.size:=(Array.getElem?_eq_some_iff.1 h.blk).1
theorem RmAt.sl_get (h:RmAt w y K vt vp vl sl){i:Nat}{t:Th}(ht:K.threads[i]? = some t):∃ s,sl[i]? = some s:=
 ⟨_,List.getElem?_eq_getElem (by rw [h.ln];exact (List.getElem?_eq_some_iff.1 ht).1)⟩
theorem RmAt.lt (h:RmAt w y K vt vp vl sl){k:Nat}(hk:RmOwn y vt vp vl sl k):k < w.heap.size:=by
 rcases hk with (rfl | hk | hk | hk) | ⟨i,s,hs,hk⟩
 ·exact h.ly
 ·exact h.th.lt hk
 ·exact h.pa.lt hk
 ·exact h.le.lt hk
 ·have hi:i < K.threads.length:=by rw [<- h.ln];exact (List.getElem?_eq_some_iff.1 hs).1
  have hw:=h.wd i _ s (List.getElem?_eq_getElem hi) hs
  rcases hk with hk | hk
  ·exact (hw.1.at_ k hk).1
  ·exact (hw.2.at_ k hk).1
theorem RmAt.kept (h:RmAt w y K vt vp vl sl){S:Nat->Prop}(hf:Fr S w w') (hs:∀ k,RmOwn y vt vp vl sl k->¬ S k):RmAt w' y K vt vp vl sl:=
 ⟨(hf.block y h.ly (hs y (.inl (.inl rfl)))).trans h.blk,h.ln,h.th.kept hf (fun k hk=>hs k (.inl (.inr (.inl hk)))),h.pa.kept hf (fun k hk=>hs k (.inl (.inr (.inr (.inl hk))))),h.le.kept hf (fun k hk=>hs k (.inl (.inr (.inr (.inr hk))))),
 fun i t s ht hsl=>⟨(h.wd i t s ht hsl).1.kept hf (fun k _ _=>by
   by_cases e:inBlock s.1.v=some k
   ·exact .inl (hs k (.inr ⟨i,s,hsl,.inl e⟩))
   ·exact .inr e) (fun _ _ h=>h),(h.wd i t s ht hsl).2.kept hf (fun k _ _=>by
   by_cases e:inBlock s.2.v=some k
   ·exact .inl (hs k (.inr ⟨i,s,hsl,.inr e⟩))
   ·exact .inr e) (fun _ _ h=>h)⟩,h.n1,h.n2,h.n3,h.n4,h.n5⟩
theorem RmAt.below (h:RmAt w y K vt vp vl sl) (hb:Below w.heap.size w w'):RmAt w' y K vt vp vl sl:=h.kept (Fr.of_below hb (fun _=>False)) (fun _ _ h=>h)
theorem RmAt.drew (h:RmAt w y K vt vp vl sl):RmAt w.drew y K vt vp vl sl:=h.kept ((Fr.refl (fun _=>False) w).drew) (fun _ _ h=>h)
theorem RmAt.cell (h:RmAt w y K vt vp vl sl) (j:Nat):w.cell? ⟨y,j,none⟩=(km vt vp vl K.sp K.fr K.clock K.first K.last)[j]?:=cell_of_row w y j _ _ _ h.blk
theorem RmAt.fro (h:RmAt w y K vt vp vl sl) (j:Nat):w.frozen? ⟨y,j,none⟩=false:=frozen_of_row _ _ _ _ _ h.blk
theorem RmAt.words (h:RmAt w y K vt vp vl sl){vt' vp' vl':Value}(hf:Fr (Wr y vt vp vl) w w') (hw:∀ k,k < w.heap.size->Wr y vt' vp' vl' k->Wr y vt vp vl k) (i:Nat) (t:Th) (s:Sv×Sv) (ht:K.threads[i]? = some t) (hs:sl[i]? = some s):Wd w' y vt' vp' vl' s.1 t.mw/\Wd w' y vt' vp' vl' s.2 t.ws:=
 ⟨(h.wd i t s ht hs).1.kept hf (fun _ _ g=>.inl g) hw,(h.wd i t s ht hs).2.kept hf (fun _ _ g=>.inl g) hw⟩
end
section
variable {w:World}{y:Nat}{K:RM}{g n c:Nat}{vp vl:Value}{sl:List (Sv×Sv)}
theorem RmAt.trange (h:RmAt w y K (.slice (some ⟨g,0,none⟩) n c) vp vl sl){i:Nat}{t:Th}{s:Sv×Sv}(ht:K.threads[i]? = some t) (hs:sl[i]? = some s):w.rangeAt g (i*20) (trow t s):=h.th.row (trows_get ht hs)
theorem RmAt.setTh (h:RmAt w y K (.slice (some ⟨g,0,none⟩) n c) vp vl sl){t j:Nat}{u:Th}{s:Sv×Sv}(f:Th->Th) (x:Value) (ht:K.threads[t]? = some u) (hs:sl[t]? = some s) (hj:j < 20) (he:(trow u s).set j x=trow (f u) s) (hm:(f u).mw=u.mw) (hw:(f u).ws=u.ws) :
  RmAt (w.setCell ⟨g,t*20+j,none⟩ x) y { K with threads:=K.threads.modify t f } (.slice (some ⟨g,0,none⟩) n c) vp vl sl:=by
 have hl:t < (trows K.threads sl).length:=by rw [trows_len h.ln];exact (List.getElem?_eq_some_iff.1 ht).1
 have hrow:(trows K.threads sl)[t]=trow u s:=by
  have:=trows_get ht hs
  rw [List.getElem?_eq_getElem hl] at this
  simpa using this
 have hset:=h.th.set t j x hl hj
 rw [hrow,he,trows_set f s ht hs,set_self hs] at hset
 have F:Fr (fun q=>q=g) w (w.setCell ⟨g,t*20+j,none⟩ x):=(Fr.refl (fun q=>q=g) w).setCell (p:=⟨g,t*20+j,none⟩) (fun _=>rfl) _
 have F2:Fr (Wr y (.slice (some ⟨g,0,none⟩) n c) vp vl) w (w.setCell ⟨g,t*20+j,none⟩ x):=F.mono (fun q _ e=>.inr (.inl (by rw [e];rfl)))
 refine ⟨(F.block y h.ly (fun e=>h.n1 (by rw [e];rfl))).trans h.blk,by simpa using h.ln,hset,h.pa.kept F (fun q hq e=>(h.n4 g rfl).1 (by rw [<- e];exact hq)),h.le.kept F (fun q hq e=>(h.n4 g rfl).2 (by rw [<- e];exact hq)),fun i t' s' ht' hs'=>?_,h.n1,h.n2,h.n3,h.n4,h.n5⟩
 have ht2:(K.threads.modify t f)[i]? = some t':=ht'
 rw [List.getElem?_modify] at ht2
 by_cases e:t=i
 ·subst e
  rw [ht] at ht2
  simp at ht2
  rw [<- ht2,hm,hw]
  exact h.words F2 (fun _ _ h=>h) t u s' ht hs'
 ·rcases hx:K.threads[i]? with _ | z
  ·rw [hx] at ht2;simp at ht2
  ·rw [hx] at ht2
   simp [e] at ht2
   rw [<- ht2]
   exact h.words F2 (fun _ _ h=>h) i z s' hx hs'
theorem RmAt.setWs (h:RmAt w y K (.slice (some ⟨g,0,none⟩) n c) vp vl sl){t:Nat}{u:Th}{s:Sv×Sv}(x:Sv) (l:List Int) (ht:K.threads[t]? = some u) (hs:sl[t]? = some s) (hx:Wd w y (.slice (some ⟨g,0,none⟩) n c) vp vl x l) :
  RmAt (w.setCell ⟨g,t*20+18,none⟩ x.v) y { K with threads:=K.threads.modify t (fun u=>{ u with ws:=l }) } (.slice (some ⟨g,0,none⟩) n c) vp vl (sl.set t (s.1,x)):=by
 have hl:t < (trows K.threads sl).length:=by rw [trows_len h.ln];exact (List.getElem?_eq_some_iff.1 ht).1
 have hrow:(trows K.threads sl)[t]=trow u s:=by
  have:=trows_get ht hs
  rw [List.getElem?_eq_getElem hl] at this
  simpa using this
 have hset:=h.th.set t 18 x.v hl (by omega)
 rw [hrow,show (trow u s).set 18 x.v=trow ((fun u:Th=>{ u with ws:=l }) u) (s.1,x) from rfl,trows_set (fun u:Th=>{ u with ws:=l }) (s.1,x) ht hs] at hset
 have F:Fr (fun q=>q=g) w (w.setCell ⟨g,t*20+18,none⟩ x.v):=(Fr.refl (fun q=>q=g) w).setCell (p:=⟨g,t*20+18,none⟩) (fun _=>rfl) _
 have F2:Fr (Wr y (.slice (some ⟨g,0,none⟩) n c) vp vl) w (w.setCell ⟨g,t*20+18,none⟩ x.v):=F.mono (fun q _ e=>.inr (.inl (by rw [e];rfl)))
 refine ⟨(F.block y h.ly (fun e=>h.n1 (by rw [e];rfl))).trans h.blk,by simpa using h.ln,hset,h.pa.kept F (fun q hq e=>(h.n4 g rfl).1 (by rw [<- e];exact hq)),h.le.kept F (fun q hq e=>(h.n4 g rfl).2 (by rw [<- e];exact hq)),fun i t' s' ht' hs'=>?_,h.n1,h.n2,h.n3,h.n4,h.n5⟩
 have ht2:(K.threads.modify t (fun u=>{ u with ws:=l }))[i]? = some t':=ht'
 rw [List.getElem?_modify] at ht2
 rw [List.getElem?_set] at hs'
 by_cases e:t=i
 ·subst e
  have hlt:=(List.getElem?_eq_some_iff.1 hs).1
  rw [ht] at ht2
  simp [hlt] at ht2 hs'
  rw [<- ht2,<- hs']
  exact ⟨(h.words F2 (fun _ _ h=>h) t u s ht hs).1,hx.kept F2 (fun _ _ g=>.inl g) (fun _ _ h=>h)⟩
 ·rw [if_neg e] at hs'
  rcases hz:K.threads[i]? with _ | z
  ·rw [hz] at ht2;simp at ht2
  ·rw [hz] at ht2
   simp [e] at ht2
   rw [<- ht2]
   exact h.words F2 (fun _ _ h=>h) i z s' hz hs'
end
section
variable {w:World}{y:Nat}{K K':RM}{vt vp vl:Value}{sl:List (Sv×Sv)}
theorem RmAt.setY (h:RmAt w y K vt vp vl sl){j:Nat}{x:Value}(he:(km vt vp vl K.sp K.fr K.clock K.first K.last).setIfInBounds j x=km vt vp vl K'.sp K'.fr K'.clock K'.first K'.last) (e1:K'.threads=K.threads) (e2:K'.passes=K.passes) (e3:K'.leaves=K.leaves) :
  RmAt (w.setCell ⟨y,j,none⟩ x) y K' vt vp vl sl:=by
 have F:Fr (fun q=>q=y) w (w.setCell ⟨y,j,none⟩ x):=(Fr.refl (fun q=>q=y) w).setCell (p:=⟨y,j,none⟩) (fun _=>rfl) _
 refine ⟨?_,by rw [e1];exact h.ln,?_,?_,?_,?_,h.n1,h.n2,h.n3,h.n4,h.n5⟩
 ·rw [<- he];exact heap_setCell_same w y j _ _ _ h.blk
 ·rw [e1];exact h.th.kept F (fun q hq e=>h.n1 (by rw [<- e];exact hq))
 ·rw [e2];exact h.pa.kept F (fun q hq e=>h.n2 (by rw [<- e];exact hq))
 ·rw [e3];exact h.le.kept F (fun q hq e=>h.n3 (by rw [<- e];exact hq))
 ·rw [e1];exact h.words (F.mono (fun q _ e=>.inl e)) (fun _ _ h=>h)
end
open Go.RowKit
theorem pad_step {rows:List (List Value)}{A:List (List Value)}{j:Nat}{p:List Value}(hj:A.length+j < rows.length) (h:Hid (rows.take (A.length+j)=A ++ List.replicate j p)):Hid ((rows.set (A.length+j) p).take (A.length+(j+1))=A ++ List.replicate (j+1) p):=by
 have h:=h.out
 unfold Hid
 rw [show A.length+(j+1)=A.length+j+1 by omega,List.take_succ_eq_append_getElem (by simpa using hj),List.take_set_of_le (Nat.le_refl _),h,List.replicate_succ']
 simp
theorem lentWords_no (w:World):Calls Tryz.prog 61 #[.slice none 0 0] w fun e w'=>e=.returned (.slice none 0 0)/\w'=w:=by
 have q42:∀ (w:World) (a:Option Addr) (n c n' c':Nat),(binOp .eql 39 (.slice a n c) (.slice none n' c')).run Tryz.prog w=.ok (.bool a.isNone) w:=fun w a n c n' c'=>Lib.run_eql_slice_nil w _ _ a n c n' c' Tryz.underlying39
 go_enter Tryz.func61,Tryz.ntmps61
 go_wp2
 go_ret
 exact ⟨rfl,rfl⟩
theorem lentWords_any (sb:Addr) (sc:Nat) (l:List Int) (w:World) (hb:l.length<=17592186044416) (hI:Inl w 1 (.slice (some sb) l.length sc) (l.map lnI)) :
  Calls Tryz.prog 61 #[.slice (some sb) l.length sc] w fun e w'=>∃ b,
   e=.returned (.slice (some ⟨b,0,none⟩) l.length (l.length+8))/\Sl w' 2 1 (.slice (some ⟨b,0,none⟩) (l.length+8) (l.length+8)) (l.map lnI ++ List.replicate 8 (lnI (-77)))/\Below w.heap.size w w'/\w.heap.size<=b:=by
 obtain ⟨n,hn⟩:∃ n,l.length=n:=⟨_,rfl⟩
 rw [hn] at hI hb ⊢
 have HI:=hid (And.intro hI hn)
 clear hI hn
 have hm1:=make_eq Tryz.underlying39 Tryz.infoN2 n (by omega) (by decide)
 simp only [Value.cells,Nat.mul_one] at hm1
 have S0:=hid (made_sl (w:=w.alloc (.cells (madeCells #[.int .i64 0] ((n+8)*1)) 2)) (g:=w.heap.size) (z:=#[.int .i64 0]) (size:=1) (e:=2) (n:=n+8) rfl (by decide) (by unfold maxLen;omega) (heap_alloc_new w _))
 have HB:=hid ((Below.refl _ w).alloc (Nat.le_refl _) (.cells (madeCells #[.int .i64 0] ((n+8)*1)) 2))
 rw [Nat.mul_one] at S0 HB
 obtain ⟨i1,hi1,_,hs1,_⟩:=info_parts Tryz.infoN2
 have II:=hid (HI.out.1.below (by decide) HB.out)
 have q42:∀ (w:World) (a:Option Addr) (n c n' c':Nat),(binOp .eql 39 (.slice a n c) (.slice none n' c')).run Tryz.prog w=.ok (.bool a.isNone) w:=fun w a n c n' c'=>Lib.run_eql_slice_nil w _ _ a n c n' c' Tryz.underlying39
 go_enter Tryz.func61,Tryz.ntmps61
 go_wp2_with (with_reducible (show wpList _ _ _ (⟨_,.call { callee:=.builtin .copy,args:=#[_,_],argTypes:=#[39,39] },_,_,_,none⟩ :: _) _ _);go_must (refine wpList_copy_sl _ rfl _ _ 39 39 rfl 2 i1 1 Tryz.underlying39 hi1 hs1 w.heap.size (n+8) (n+8) _ rfl S0.out (some sb) n sc _ rfl II.out (by have:=HI.out.2;simp;omega) ?_);intro wf HC;(have S1:=hid HC.out.1);have HB1:=hid (HB.out.trans ((Fr.grown HC.out.2).to_below (by simp) (fun k hk=>by simp at hk;omega)));clear HC)
 obtain ⟨B,hB0⟩:∃ B,w.heap.size=B:=⟨_,rfl⟩
 have hB:=hid hB0
 rw [hB0] at HB S1 HB1 ⊢
 clear hB0
 have hA:(l.map lnI).length=n:=by rw [List.length_map];exact HI.out.2
 have HA:=hid hA
 clear hA hm1
 obtain ⟨rows0,hr0,hl0,hp0⟩:∃ rows0,Hid (Sl wf 2 1 (.slice (some ⟨B,0,none⟩) (n+8) (n+8)) rows0)/\rows0.length=n+8/\Hid (rows0.take ((l.map lnI).length+0)=l.map lnI ++ List.replicate 0 (lnI (-77))):=⟨_,S1,by simp;have:=HI.out.2;omega,by simp [Hid]⟩
 clear S1
 go_loopw [4] (fun i wr=>∃ (j:Nat) (rows:List (List Value)),j<=8/\i=.int .i64 ((n+j:Nat):Int)/\Sl wr 2 1 (.slice (some ⟨B,0,none⟩) (n+8) (n+8)) rows/\rows.length=n+8/\Hid (rows.take ((l.map lnI).length+j)=l.map lnI ++ List.replicate j (lnI (-77)))/\Fr (fun q=>q=B) wf wr) (fun i _=>n+8-(intOf i).toNat)
 case atStart=>exact ⟨0,rows0,Nat.zero_le _,rfl,hr0.out,hl0,hp0,Fr.refl _ _⟩
 case round=>
 obtain ⟨j,rows,hj,rfl,hs,hrl,hpad,hf⟩:=hrel
 clear hr0 hl0 hp0
 by_cases hlt:j < 8
 ·obtain ⟨x,hx⟩:∃ x,rows[n+j]'(by omega)=[x]:=by
   have:=hs.len (rows[n+j]'(by omega)) (List.getElem_mem _)
   rcases hq:rows[n+j]'(by omega) with _ | ⟨x,_ | ⟨z,r⟩⟩
   ·rw [hq] at this;simp at this
   ·exact ⟨x,rfl⟩
   ·rw [hq] at this;simp at this
  have hc:wr.cell? ⟨B,n+j,none⟩=some x:=by
   have:=hs.cell (n+j) 0 (by omega) (by omega)
   rw [hx] at this
   simpa using this
  have hz:=hs.fro (n+j)
  have HS:Hid (Sl (wr.setCell ⟨B,n+j,none⟩ (.int .i64 (-77))) 2 1 (.slice (some ⟨B,0,none⟩) (n+8) (n+8)) (rows.set (n+j) (lnI (-77)))):=by
   have h:=hs.set (n+j) 0 (.int .i64 (-77)) (by omega) (by omega)
   rw [hx] at h
   rw [show (n+j)*1+0=n+j by omega] at h
   exact h
  have HP:=hid (And.intro hpad hrl)
  have HF:=hid hf
  clear hs hpad hf hrl hx
  go_wp2
  refine ⟨⟨j+1,rows.set (n+j) (lnI (-77)),by omega,by go_num,?_,by simp [HP.out.2],?_,?_⟩,by simp [intOf];omega⟩
  ·exact HS.out
  ·have:=pad_step (by rw [HA.out,HP.out.2];omega) HP.out.1
   rw [HA.out] at this ⊢
   exact this
  ·exact HF.out.setCell (fun _=>rfl) _
 ·have ej:j=8:=by omega
  subst ej
  go_wp2
  go_ret
  refine ⟨B,rfl,?_,?_,by have:=hB.out;omega⟩
  ·have h:=hpad.out
   rw [List.take_of_length_le (by rw [HA.out,hrl];exact Nat.le_refl _)] at h
   rw [<- h];exact hs
  ·rw [hB.out]
   exact HB1.out.trans (hf.to_below (by have:=HB1.out.size;have:=hB.out;omega) (fun q h=>by omega))
theorem backWords_no (w:World):Calls Tryz.prog 62 #[.slice none 0 0,.slice none 0 0] w fun e w'=>e=.returned (.bool true)/\w'=w:=by
 have q42:∀ (w:World) (a:Option Addr) (n c n' c':Nat),(binOp .eql 39 (.slice a n c) (.slice none n' c')).run Tryz.prog w=.ok (.bool a.isNone) w:=fun w a n c n' c'=>Lib.run_eql_slice_nil w _ _ a n c n' c' Tryz.underlying39
 go_enter Tryz.func62,Tryz.ntmps62
 go_wp2
 go_ret
 exact ⟨rfl,rfl⟩
theorem backWords_any (sb:Addr) (sc:Nat) (l:List Int) (b:Nat) (w:World) (hb:l.length<=17592186044416) (hI:Inl w 1 (.slice (some sb) l.length sc) (l.map lnI)) (hne:∀ q,inBlock (.slice (some sb) l.length sc)=some q->q≠b)
  (hS:Sl w 2 1 (.slice (some ⟨b,0,none⟩) (l.length+8) (l.length+8)) (l.map lnI ++ List.replicate 8 (lnI (-77)))) :
  Calls Tryz.prog 62 #[.slice (some ⟨b,0,none⟩) l.length (l.length+8),.slice (some sb) l.length sc] w fun e w'=>e=.returned (.bool true)/\Fr (fun k=>k=b) w w':=by
 obtain ⟨n,hn⟩:∃ n,l.length=n:=⟨_,rfl⟩
 rw [hn] at hI hb hS hne ⊢
 have hL0:(l.map lnI ++ List.replicate 8 (lnI (-77))).length=n+8:=by simp [hn]
 have HI:=hid (And.intro hI (And.intro hn (And.intro hS (And.intro hL0 hne))))
 clear hI hn hS hL0 hne
 have q42:∀ (w:World) (a:Option Addr) (n c n' c':Nat),(binOp .eql 39 (.slice a n c) (.slice none n' c')).run Tryz.prog w=.ok (.bool a.isNone) w:=fun w a n c n' c'=>Lib.run_eql_slice_nil w _ _ a n c n' c' Tryz.underlying39
 go_enter Tryz.func62,Tryz.ntmps62
 go_wp2_with fail
 go_loopw [6,7] (fun o i wr=>∃ (k:Nat) (rows:List (List Value)),k<=n+8/\o=.bool true/\i=.int .i64 k/\Sl wr 2 1 (.slice (some ⟨b,0,none⟩) (n+8) (n+8)) rows/\rows.length=n+8/\Hid (∀ j,k<=j->rows[j]? = (l.map lnI ++ List.replicate 8 (lnI (-77)))[j]?)/\Fr (fun q=>q=b) w wr) (fun _ i _=>n+8-(intOf i).toNat)
 case atStart=>exact ⟨0,_,Nat.zero_le _,by simp,rfl,HI.out.2.2.1,HI.out.2.2.2.1,fun _ _=>rfl,Fr.refl _ _⟩
 case round=>
 obtain ⟨k,rows,hk,rfl,rfl,hs,hrl,hpad,hf⟩:=hrel
 by_cases hlt:k < n+8
 ·have hz:=hs.fro k
  have HS:∀ x,rows[k]? = some [x]->Hid (wr.cell? ⟨b,k,none⟩=some x/\Sl (wr.setCell ⟨b,k,none⟩ (.int .i64 (-78))) 2 1 (.slice (some ⟨b,0,none⟩) (n+8) (n+8)) (rows.set k (lnI (-78)))):=by
   intro x hx
   have hx2:rows[k]'(by omega)=[x]:=by rw [List.getElem?_eq_getElem (by omega)] at hx;simpa using hx
   have h:=hs.set k 0 (.int .i64 (-78)) (by omega) (by omega)
   rw [hx2,show k*1+0=k by omega] at h
   have h2:=hs.cell k 0 (by omega) (by omega)
   rw [hx2,show k*1+0=k by omega] at h2
   exact ⟨h2,h⟩
  have HN:Hid (∀ j,k+1<=j->(rows.set k (lnI (-78)))[j]? = (l.map lnI ++ List.replicate 8 (lnI (-77)))[j]?):=fun j hj=>by
   rw [List.getElem?_set_ne (by omega)];exact hpad.out j (by omega)
  have HE:=hpad.out k (Nat.le_refl _)
  have HL:=hid hrl
  have HF:=hid hf
  by_cases hkn:k < n
  ·obtain ⟨z,hzl⟩:∃ z,l[k]? = some z:=⟨_,List.getElem?_eq_getElem (by have:=HI.out.2.1;omega)⟩
   have hr:rows[k]? = some [.int .i64 z]:=by
    rw [HE,List.getElem?_append_left (by have:=HI.out.2.1;simp;omega),List.getElem?_map,hzl];rfl
   obtain ⟨bb,off,hbb,hro⟩:=(HI.out.1.kept (by decide) hf (fun q hq h=>HI.out.2.2.2.2 q hq h)).row (k:=k) (r:=[.int .i64 z]) (by rw [List.getElem?_map,hzl];rfl)
   cases hbb
   have hl1:=hro 0 (.int .i64 z) rfl
   rw [show off+k*1+0=off+k by omega] at hl1
   have hc:=(HS _ hr).out.1
   have HS2:=hid (HS _ hr).out.2
   have ht:(z == z)=true:=by simp
   clear HS hs hrl hpad hf HE hr hro hzl
   go_wp2
   exact ⟨⟨k+1,rows.set k (lnI (-78)),by omega,by simp,by go_num,HS2.out,by simp [HL.out],HN,HF.out.setCell (fun _=>rfl) _⟩,by simp [intOf];omega⟩
  ·have hr:rows[k]? = some [.int .i64 (-77)]:=by
    rw [HE,List.getElem?_append_right (by have:=HI.out.2.1;simp;omega),List.getElem?_replicate,if_pos (by have:=HI.out.2.1;simp;omega)];rfl
   have hc:=(HS _ hr).out.1
   have HS2:=hid (HS _ hr).out.2
   clear HS hs hrl hpad hf HE hr
   go_wp2
   exact ⟨⟨k+1,rows.set k (lnI (-78)),by omega,by simp,by go_num,HS2.out,by simp [HL.out],HN,HF.out.setCell (fun _=>rfl) _⟩,by simp [intOf];omega⟩
 ·go_wp2
  go_ret
  exact ⟨rfl,hf⟩
open Go.RowKit
def ordOf (ts:List (Int×Int×Int×Int)) (t:Nat):Int:=((ts[t]?).map (fun u=>u.2.2.1)).getD 0
structure Lined (ts:List (Int×Int×Int×Int)) (last:Int) (ln:Nat->List Nat):Prop where
 mem:∀ (r t:Nat),t∈ln r↔∃ u,ts[t]? = some u/\u.2.1=r
 sorted:∀ r,(ln r).Pairwise (fun a b=>ordOf ts a < ordOf ts b)
 row:∀ (t:Nat) u,ts[t]? = some u->0<=u.2.1/\u.2.1<=3
 last:∀ (t:Nat) u,ts[t]? = some u->u.2.2.1 < last
theorem Lined.nodup {ts:List (Int×Int×Int×Int)}{last:Int}{ln:Nat->List Nat}(h:Lined ts last ln) (r:Nat):(ln r).Nodup:=
 (h.sorted r).imp (fun h e=>by rw [e] at h;omega)
theorem Lined.lt {ts:List (Int×Int×Int×Int)}{last:Int}{ln:Nat->List Nat}(h:Lined ts last ln){r t:Nat}(ht:t∈ln r):t < ts.length:=by
 obtain ⟨u,hu,_⟩:=(h.mem r t).1 ht
 exact (List.getElem?_eq_some_iff.1 hu).1
def comeLast (ln:Nat->List Nat) (r t:Nat):Nat->List Nat:=fun s=>if s=r then (ln r).erase t ++ [t] else ln s
theorem Lined.add {ts:List (Int×Int×Int×Int)}{ln:Nat->List Nat}(h:Lined ts ts.length ln) (a:Int) (r:Nat) (hr:r<=3) (n:Int) :
  Lined (ts ++ [(a,(r:Int),(ts.length:Int),n)]) ((ts.length:Int)+1) (comeLast ln r ts.length):=by
 have hne:∀ s,ts.length ∉ ln s:=fun s hm=>Nat.lt_irrefl _ (h.lt hm)
 have hg:∀ i:Nat,(ts ++ [(a,(r:Int),(ts.length:Int),n)])[i]? = if i=ts.length then some (a,(r:Int),(ts.length:Int),n) else ts[i]?:=by
  intro i
  by_cases e:i=ts.length
  ·subst e;simp
  ·rw [if_neg e]
   rcases Nat.lt_or_ge i ts.length with hl | hl
   ·exact List.getElem?_append_left hl
   ·rw [List.getElem?_eq_none (by simp;omega),List.getElem?_eq_none hl]
 have hcl:∀ s,comeLast ln r ts.length s=if s=r then ln r ++ [ts.length] else ln s:=by
  intro s;unfold comeLast;rw [List.erase_of_not_mem (hne r)]
 refine ⟨?_,?_,?_,?_⟩
 ·intro s i
  rw [hcl,hg]
  by_cases hs:s=r
  ·subst hs
   rw [if_pos rfl,List.mem_append,List.mem_singleton,h.mem]
   by_cases e:i=ts.length
   ·subst e;simp
   ·simp [e]
  ·rw [if_neg hs,h.mem]
   by_cases e:i=ts.length
   ·subst e
    simp only [if_pos,Option.some.injEq,exists_eq_left']
    constructor
    ·rintro ⟨u,hu,_⟩
     simp at hu
    ·intro e;omega
   ·simp [e]
 ·intro s
  have hold:∀ s,(ln s).Pairwise (fun x y=>ordOf (ts ++ [(a,(r:Int),(ts.length:Int),n)]) x < ordOf (ts ++ [(a,(r:Int),(ts.length:Int),n)]) y):=by
   intro s
   refine (h.sorted s).imp_of_mem ?_
   intro x y hx hy hxy
   unfold ordOf at hxy ⊢
   rw [hg,hg,if_neg (show ¬ x=ts.length from fun e=>hne s (e ▸ hx)),if_neg (show ¬ y=ts.length from fun e=>hne s (e ▸ hy))]
   exact hxy
  rw [hcl]
  by_cases hs:s=r
  ·subst hs
   rw [if_pos rfl,List.pairwise_append]
   refine ⟨hold s,by simp,?_⟩
   intro x hx y hy
   rw [List.mem_singleton] at hy
   subst hy
   obtain ⟨u,hu,_⟩:=(h.mem s x).1 hx
   have:=h.last x u hu
   unfold ordOf
   rw [hg,hg,if_neg (show ¬ x=ts.length from fun e=>hne s (e ▸ hx)),if_pos rfl,hu]
   simpa using this
  ·rw [if_neg hs];exact hold s
 ·intro i v hv
  rw [hg] at hv
  by_cases e:i=ts.length
  ·rw [if_pos e] at hv;cases hv;simp;omega
  ·rw [if_neg e] at hv;exact h.row i v hv
 ·intro i v hv
  rw [hg] at hv
  by_cases e:i=ts.length
  ·rw [if_pos e] at hv;cases hv;simp;omega
  ·rw [if_neg e] at hv;have:=h.last i v hv;omega
theorem Lined.none:Lined [] 0 (fun _=>[]):=⟨by simp,by simp,by simp,by simp⟩
end Go.Proofs.YteejjgbeknnmeaaGreatDoor
