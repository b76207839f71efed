import Derived.Test.YteejjgbeknnmeaaGreatDoorH03
import Derived.Deep.QuietTactic
import Derived.BigQuiet
import Derived.BigRegion
import Derived.Deep.DeepCutAuto
namespace Go.Proofs.YteejjgbeknnmeaaGreatDoor
open Go.RowKit
open Go.RowKit
open Go.RowKit
open Go.RowKit
open Go.RowKit
theorem results_row_tmp {P:Program}{fn:Func}{p q:Tmp}{ty:TypeId}(h:fn.results=#[.cell p ty,.tmp q]) (tmps:Array Value) (w:World) (g:Nat) (t:TypeId) (cs:Array Value) (fr:Nat×Nat) (d:TypeDesc) (r:Value)
  (hp:tmps.getD p undef=.pointer (some ⟨g,0,none⟩)) (hg:w.heap[g]? = some (.cells cs t fr)) (hu:P.underlying ty=some d) (hd:(match d with | .struct _ | .array _ _=>true | _=>false)=true) (hi:(P.info? ty).map (·.size)=some cs.size) (hr:tmps.getD q undef=r) :
  (results fn tmps).run P w=.ok (.tuple #[.agg cs,r]) w:=by
 have hp':tmps[p]?.getD undef=.pointer (some ⟨g,0,none⟩):=by simpa using hp
 have hq':tmps[q]?.getD undef=r:=by simpa using hr
 simp [results,h,hp',hq',asAddr,run_loadVar_row w g t ty cs fr d hg hu hd hi]
open Go.RowKit
def findQ (L:List (Int×Int×Int×Int)) (s n:Int):Option (Int×Int×Int×Int):=L.find? (fun p=>p.1 == s && p.2.1 == n)
def told (L:List (Int×Int×Int×Int)) (s:Int):Nat->List (Int×Int×Int×Int)
 | 0=>[]
 | k+1=>told L s k ++ (findQ L s k).toList
theorem told_le (L:List (Int×Int×Int×Int)) (s:Int):∀ k,(told L s k).length<=k
 | 0=>by simp [told]
 | k+1=>by
  have:=told_le L s k
  simp only [told,List.length_append]
  cases findQ L s k <;> simp <;> omega
open Go.RowKit
theorem new4 (w:World) (A B C D:Obj) :
  ((((w.alloc A).alloc B).alloc C).alloc D).heap[w.heap.size]? = some A/\((((w.alloc A).alloc B).alloc C).alloc D).heap[w.heap.size+1]? = some B /\
  ((((w.alloc A).alloc B).alloc C).alloc D).heap[w.heap.size+1+1]? = some C/\((((w.alloc A).alloc B).alloc C).alloc D).heap[w.heap.size+1+1+1]? = some D:=by
 simp only [heap_push,Array.getElem?_push,Array.size_push]
 refine ⟨?_,?_,?_,?_⟩ <;> (repeat (first | rw [if_pos (by first | trivial | omega)] | rw [if_neg (by omega)]))
theorem inl_lit {w:World}{g size n:Nat}{rows:List (List Value)}{e:TypeId}{cs:Array Value}(hb:w.heap[g]? = some (.cells cs e (0,0))) (hc:cs.toList=rows.flatten) (hn:rows.length=n) (hl:∀ r∈rows,r.length=size) (h1:∀ r∈rows,∀ u∈r,u.oneCell'=true) (hm:n<=maxLen) :
  Inl w size (.slice (some ⟨g,0,none⟩) n n) rows:=by
 subst hn
 refine ⟨hl,h1,some ⟨g,0,none⟩,rows.length,rfl,hm,.inr ⟨g,0,rfl,fun j v hv=>?_⟩⟩
 rw [Nat.zero_add,cell_of_row w g j cs e (0,0) hb,<- hv,<- hc]
 simp
open Go.RowKit
def ordOf (ts:List (Int×Int×Int×Int)) (t:Nat):Int:=((ts[t]?).map (fun u=>u.2.2.1)).getD 0
structure Lined (ts:List (Int×Int×Int×Int)) (last:Int) (ln:Nat->List Nat):Prop where
 mem:∀ (r t:Nat),t∈ln r↔∃ u,ts[t]? = some u/\u.2.1=r
 sorted:∀ r,(ln r).Pairwise (fun a b=>ordOf ts a < ordOf ts b)
 row:∀ (t:Nat) u,ts[t]? = some u->0<=u.2.1/\u.2.1<=3
 last:∀ (t:Nat) u,ts[t]? = some u->u.2.2.1 < last
theorem Lined.nodup {ts:List (Int×Int×Int×Int)}{last:Int}{ln:Nat->List Nat}(h:Lined ts last ln) (r:Nat):(ln r).Nodup:=
 (h.sorted r).imp (fun h e=>by rw [e] at h;omega)
theorem Lined.lt {ts:List (Int×Int×Int×Int)}{last:Int}{ln:Nat->List Nat}(h:Lined ts last ln){r t:Nat}(ht:t∈ln r):t < ts.length:=by
 obtain ⟨u,hu,_⟩:=(h.mem r t).1 ht
 exact (List.getElem?_eq_some_iff.1 hu).1
def comeLast (ln:Nat->List Nat) (r t:Nat):Nat->List Nat:=fun s=>if s=r then (ln r).erase t ++ [t] else ln s
theorem Lined.add {ts:List (Int×Int×Int×Int)}{ln:Nat->List Nat}(h:Lined ts ts.length ln) (a:Int) (r:Nat) (hr:r<=3) (n:Int) :
  Lined (ts ++ [(a,(r:Int),(ts.length:Int),n)]) ((ts.length:Int)+1) (comeLast ln r ts.length):=by
 have hne:∀ s,ts.length ∉ ln s:=fun s hm=>Nat.lt_irrefl _ (h.lt hm)
 have hg:∀ i:Nat,(ts ++ [(a,(r:Int),(ts.length:Int),n)])[i]? = if i=ts.length then some (a,(r:Int),(ts.length:Int),n) else ts[i]?:=by
  intro i
  by_cases e:i=ts.length
  ·subst e;simp
  ·rw [if_neg e]
   rcases Nat.lt_or_ge i ts.length with hl | hl
   ·exact List.getElem?_append_left hl
   ·rw [List.getElem?_eq_none (by simp;omega),List.getElem?_eq_none hl]
 have hcl:∀ s,comeLast ln r ts.length s=if s=r then ln r ++ [ts.length] else ln s:=by
  intro s;unfold comeLast;rw [List.erase_of_not_mem (hne r)]
 refine ⟨?_,?_,?_,?_⟩
 ·intro s i
  rw [hcl,hg]
  by_cases hs:s=r
  ·subst hs
   rw [if_pos rfl,List.mem_append,List.mem_singleton,h.mem]
   by_cases e:i=ts.length
   ·subst e;simp
   ·simp [e]
  ·rw [if_neg hs,h.mem]
   by_cases e:i=ts.length
   ·subst e
    simp only [if_pos,Option.some.injEq,exists_eq_left']
    constructor
    ·rintro ⟨u,hu,_⟩
     simp at hu
    ·intro e;omega
   ·simp [e]
 ·intro s
  have hold:∀ s,(ln s).Pairwise (fun x y=>ordOf (ts ++ [(a,(r:Int),(ts.length:Int),n)]) x < ordOf (ts ++ [(a,(r:Int),(ts.length:Int),n)]) y):=by
   intro s
   refine (h.sorted s).imp_of_mem ?_
   intro x y hx hy hxy
   unfold ordOf at hxy ⊢
   rw [hg,hg,if_neg (show ¬ x=ts.length from fun e=>hne s (e ▸ hx)),if_neg (show ¬ y=ts.length from fun e=>hne s (e ▸ hy))]
   exact hxy
  rw [hcl]
  by_cases hs:s=r
  ·subst hs
   rw [if_pos rfl,List.pairwise_append]
   refine ⟨hold s,by simp,?_⟩
   intro x hx y hy
   rw [List.mem_singleton] at hy
   subst hy
   obtain ⟨u,hu,_⟩:=(h.mem s x).1 hx
   have:=h.last x u hu
   unfold ordOf
   rw [hg,hg,if_neg (show ¬ x=ts.length from fun e=>hne s (e ▸ hx)),if_pos rfl,hu]
   simpa using this
  ·rw [if_neg hs];exact hold s
 ·intro i v hv
  rw [hg] at hv
  by_cases e:i=ts.length
  ·rw [if_pos e] at hv;cases hv;simp;omega
  ·rw [if_neg e] at hv;exact h.row i v hv
 ·intro i v hv
  rw [hg] at hv
  by_cases e:i=ts.length
  ·rw [if_pos e] at hv;cases hv;simp;omega
  ·rw [if_neg e] at hv;have:=h.last i v hv;omega
theorem Lined.none:Lined [] 0 (fun _=>[]):=⟨by simp,by simp,by simp,by simp⟩
end Go.Proofs.YteejjgbeknnmeaaGreatDoor
