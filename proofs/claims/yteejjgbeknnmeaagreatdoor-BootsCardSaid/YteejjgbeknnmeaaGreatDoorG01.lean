import Derived.WalkKit
import Derived.WalkSpells
import Derived.WalkLawsBesides
import Derived.Deep.MidRow
import Derived.Deep.RegionLaw
import Derived.Deep.RegionLawGrows
import Derived.Test.YteejjgbeknnmeaaGreatDoorRows
import Derived.Deep.QuietTactic
import Derived.BigQuiet
import Derived.Deep.WholeRow
import Derived.Deep.DeepCutAuto
import Derived.Deep.RegionHeld3
import Derived.Lib.SliceRun
set_option maxRecDepth 100000
set_option maxHeartbeats 20000000
namespace Go.Proofs.YteejjgbeknnmeaaGreatDoor
open Go.RowKit
theorem ret_int {k:IntKind}{a b:Int}(h:a=b):Ending.returned (.int k a)=.returned (.int k b):=by rw [h]
theorem ret_bool {a b:Bool}(h:a=b):Ending.returned (.bool a)=.returned (.bool b):=by rw [h]
theorem hid {p:Prop}(h:p):Hid p:=h
structure Fr (S:Nat->Prop) (w w':World):Prop where
 os:w'.os=w.os
 tape:w'.tape=w.tape
 output:w'.output=w.output
 size:w.heap.size<=w'.heap.size
 block:∀ k,k < w.heap.size->¬ S k->w'.heap[k]? = w.heap[k]?
theorem Fr.refl (S:Nat->Prop) (w:World):Fr S w w:=⟨rfl,rfl,rfl,Nat.le_refl _,fun _ _ _=>rfl⟩
theorem Fr.trans {S:Nat->Prop}{a b c:World}(h:Fr S a b) (k:Fr S b c):Fr S a c:=
 ⟨k.os.trans h.os,k.tape.trans h.tape,k.output.trans h.output,Nat.le_trans h.size k.size,
 fun i hi hs=>(k.block i (Nat.lt_of_lt_of_le hi h.size) hs).trans (h.block i hi hs)⟩
theorem Fr.mono {S T:Nat->Prop}{w w':World}(h:Fr S w w') (hST:∀ k,k < w.heap.size->S k->T k):Fr T w w':=
 ⟨h.os,h.tape,h.output,h.size,fun k hk hs=>h.block k hk (fun hS=>hs (hST k hk hS))⟩
theorem Fr.of_below {w w':World}(h:Below w.heap.size w w') (S:Nat->Prop):Fr S w w':=⟨h.os,h.tape,h.output,h.size,fun k hk _=>h.block k hk⟩
theorem Fr.to_below {S:Nat->Prop}{B:Nat}{w w':World}(h:Fr S w w') (hB:B<=w.heap.size) (hS:∀ k,S k->B<=k):Below B w w':=
 ⟨h.os,h.tape,h.output,h.size,fun k hk=>h.block k (by omega) (fun hs=>by have:=hS k hs;omega)⟩
theorem Fr.grown {w w':World}{row:Option Nat}(hg:w.grownBy w' row):Fr (fun k=>row=some k) w w':=
 ⟨hg.os,hg.tape,hg.output,hg.size,fun k hk hs=>hg.block k hk (fun e=>hs e.symm)⟩
theorem Fr.alloc {S:Nat->Prop}{a w:World}(h:Fr S a w) (o:Obj):Fr S a (w.alloc o):=
 h.trans ⟨rfl,rfl,rfl,by simp,fun k hk _=>Below.heap_alloc _ _ _ hk⟩
theorem Fr.drew {S:Nat->Prop}{a w:World}(h:Fr S a w):Fr S a w.drew:=⟨h.os,h.tape,h.output,h.size,h.block⟩
theorem Fr.setCell {S:Nat->Prop}{a w:World}(h:Fr S a w){p:Addr}(hp:p.block < a.heap.size->S p.block) (u:Value):Fr S a (w.setCell p u):=
 ⟨h.os,h.tape,h.output,by simpa [World.setCell] using h.size,fun k hk hs=>by
  rw [Below.heap_setCell _ _ _ _ (fun e=>hs (by rw [e];exact hp (by omega)))];exact h.block k hk hs⟩
theorem Fr.cell {S:Nat->Prop}{w w':World}(h:Fr S w w'){p:Addr}(hp:p.block < w.heap.size) (hs:¬ S p.block):w'.cell? p=w.cell? p:=World.cell?_of_block (w:=w) (h.block p.block hp hs)
def rep (n:Nat) (P:List Value):List Value:=(List.replicate n P).flatten
theorem rep_add (n m:Nat) (P:List Value):rep (n+m) P=rep n P ++ rep m P:=by simp [rep,<- List.replicate_append_replicate]
theorem length_rep (n:Nat) (P:List Value):(rep n P).length=n*P.length:=by
 induction n with
 | zero=>simp [rep]
 | succ n ih=>rw [rep_add,List.length_append,ih,Nat.succ_mul];simp [rep]
theorem take_rep (n k:Nat) (P:List Value) (h:k<=n):(rep n P).take (k*P.length)=rep k P:=by
 obtain ⟨d,rfl⟩:=Nat.exists_eq_add_of_le h
 rw [rep_add,<- length_rep k P];exact List.take_left
theorem rep_get (n:Nat) (P:List Value) (k j:Nat) (hk:k < n) (hj:j < P.length):(rep n P)[k*P.length+j]? = P[j]?:=by
 induction n generalizing k with
 | zero=>omega
 | succ n ih=>
  rw [Nat.add_comm n 1,rep_add]
  have e:rep 1 P=P:=by simp [rep]
  rw [e]
  rcases k with _ | k
  ·simp only [Nat.zero_mul,Nat.zero_add];exact List.getElem?_append_left hj
  ·rw [List.getElem?_append_right (by rw [Nat.succ_mul];omega)]
   rw [show (k+1)*P.length+j-P.length=k*P.length+j by rw [Nat.succ_mul];omega]
   exact ih k (by omega)
theorem owns_slice {w:World}{base:Nat}{e:TypeId}{size:Nat}{v:Value}{n:Nat}{xs:List Value}(h:w.ownsRow base e size v n xs):∃ a c,v=.slice a n c:=by
 rcases h.2 with ⟨rfl,rfl⟩ | ⟨g,cap,cur,rfl,_⟩
 ·exact ⟨_,_,rfl⟩
 ·exact ⟨_,_,rfl⟩
def Marked (w:World) (e:TypeId) (P:List Value) (v:Value):Prop:=∃ n,w.ownsRow 0 e P.length v n (rep n P)
theorem Marked.kept {w w':World}{e:TypeId}{P:List Value}{v:Value}(h:Marked w e P v){S:Nat->Prop}(hf:Fr S w w') (hs:∀ k,v.ownBlock=some k->¬ S k):Marked w' e P v:=by
 obtain ⟨n,h1,h2⟩:=h
 refine ⟨n,h1,?_⟩
 rcases h2 with h2 | ⟨g,cap,cur,rfl,hb,hg,r⟩
 ·exact .inl h2
 ·exact .inr ⟨g,cap,cur,rfl,hb,by rw [hf.block g (Array.getElem?_eq_some_iff.1 hg).1 (hs g rfl)];exact hg,r⟩
theorem splice_marks (n m k:Nat) (P L:List Value) (hk:k*P.length<=L.length) (hl:L.take (k*P.length)=rep k P) (hn:L.take (n*P.length)=rep n P) (_hnm:(n+m)*P.length<=L.length) :
  (L.take (n*P.length) ++ rep m P ++ L.drop (n*P.length+(rep m P).length)).take (k*P.length)=rep k P:=by
 rw [length_rep,hn]
 by_cases h1:k<=n
 ·rw [List.append_assoc,List.take_append_of_le_length (by rw [length_rep];exact Nat.mul_le_mul_right _ h1)]
  exact take_rep n k P h1
 ·by_cases h2:k<=n+m
  ·rw [List.take_append_of_le_length (by rw [List.length_append,length_rep,length_rep,<- Nat.add_mul];exact Nat.mul_le_mul_right _ h2),<- rep_add]
   exact take_rep _ _ P h2
  ·obtain ⟨d,rfl⟩:=Nat.exists_eq_add_of_le (show n+m<=k by omega)
   rw [<- rep_add,<- Nat.add_mul]
   have e:L.take ((n+m)*P.length)=rep (n+m) P:=by
    have:=congrArg (List.take ((n+m)*P.length)) hl
    rw [List.take_take,take_rep _ _ P (by omega)] at this
    rwa [Nat.min_eq_left (Nat.mul_le_mul_right _ (by omega))] at this
   rw [<- e,List.take_append_drop]
   exact hl
def Appended (e:TypeId) (M:List Value) (v:Value) (w:World) (v':Value) (n':Nat) (w':World):Prop:=
 w'.ownsRow 0 e M.length v' n' (rep n' M)/\w.grownBy w' v.ownBlock/\(∀ k,v'.ownBlock=some k->w.heap.size<=k\/v.ownBlock=some k) /\
   (∀ u k,w.ownsRow 0 e M.length u k (rep k M)->w'.ownsRow 0 e M.length u k (rep k M))
section
variable {P:Program}(w:World)
theorem run_append_marks (t ty e:TypeId) (i:TypeInfo) (z:Value) (M:List Value) (bytes:Nat) (ht:P.underlying t=some (.slice e)) (hi:P.info? e=some i) (hz:i.zero=some z)
  (hsize:i.size=M.length) (hby:i.bytes=bytes) (hzs:z.cells.size=M.length) (hsz:0 < M.length)
  (v:Value) (n:Nat) (hown:w.ownsRow 0 e M.length v n (rep n M))
  (a:Addr) (m c:Nat) (hm:0 < m) (hnews:∀ j u,(rep m M)[j]? = some u->w.cell? (a.add j)=some u) (h1:∀ u∈M,u.oneCell'=true)
  (h63:n+m<=maxLen) (hbytes:(n+m)*bytes<=140737488355328) :
  ∃ v' w',(Builtin.append_ #[t,t] ty #[v,.slice (some a) m c]).run P w=.ok v' w'/\w'.ownsRow 0 e M.length v' (n+m) (rep (n+m) M)/\w.grownBy w' v.ownBlock /\
   (∀ k,v'.ownBlock=some k->w.heap.size<=k\/v.ownBlock=some k)/\(∀ u k,w.ownsRow 0 e M.length u k (rep k M)->w'.ownsRow 0 e M.length u k (rep k M)):=by
 subst hby
 have hl:(rep m M).length=m*i.size:=by rw [length_rep,hsize]
 have h1':∀ u∈rep m M,u.oneCell'=true:=by
  intro u hu
  simp only [rep,List.mem_flatten,List.mem_replicate] at hu
  obtain ⟨l,⟨_,rfl⟩,hu⟩:=hu
  exact h1 u hu
 have hold:∀ (o:Obj) (u:Value) (k:Nat),w.ownsRow 0 e M.length u k (rep k M)->(w.drew.alloc o).ownsRow 0 e M.length u k (rep k M):=by
  intro o u k h
  exact World.ownsRow.kept (row:=none) h ⟨rfl,rfl,rfl,by simp,fun k hk _=>Below.heap_alloc w.drew _ k hk⟩ (by cases hv:u.ownBlock <;> simp)
 obtain ⟨v',w',hr,hO,hG,_⟩:=run_append_own (P:=P) w 0 t ty e i z M.length i.bytes ht hi hz hsize rfl hzs hsz v n (rep n M) hown a m c (rep m M) (by rw [length_rep]) hnews h1' h63 hbytes (Nat.zero_le _)
 rw [<- rep_add] at hO
 refine ⟨v',w',hr,hO,hG,?_⟩
 rcases hown.2 with ⟨rfl,rfl⟩ | ⟨g,cap,cur,rfl,hbg,hg,hnc,hcm,hcs,htake⟩
 ·have hr2:=run_append_nil (P:=P) w t ty e i z ht hi hz a m c (rep m M) hl hnews hm (by simp only [maxLen] at h63;omega) (by simp only [Nat.zero_add] at hbytes;omega)
  rw [hr2] at hr
  simp only [Result.ok.injEq] at hr
  obtain ⟨rfl,rfl⟩:=hr
  refine ⟨fun k hk=>by simp [Value.ownBlock] at hk;left;omega,hold _⟩
 ·by_cases hroom:n+m<=cap
  ·have hfit:n*i.size+(rep m M).length<=cur.size:=by rw [length_rep,hcs,hsize,<- Nat.add_mul];exact Nat.mul_le_mul_right _ hroom
   have hr2:=run_append_room (P:=P) w t ty e i ht hi g n cap cur hg a m c (rep m M) hl hnews h1' hroom hfit
   rw [hr2] at hr
   simp only [Result.ok.injEq] at hr
   obtain ⟨rfl,rfl⟩:=hr
   refine ⟨fun k hk=>by simp [Value.ownBlock] at hk ⊢;right;omega,?_⟩
   intro u k hu
   refine ⟨hu.1,?_⟩
   rcases hu.2 with h | ⟨g2,cap2,cur2,rfl,_,hg2,hk2,hc2,hs2,ht2⟩
   ·exact .inl h
   ·by_cases hgg:g2=g
    ·subst hgg
     have ec:cur2=cur:=by rw [hg] at hg2;simpa using hg2.symm
     subst ec
     refine .inr ⟨g2,cap2,_,rfl,Nat.zero_le _,setRow_heap w g2 cur2 _ e _ hg,hk2,hc2,?_,?_⟩
     ·simp only [List.size_toArray,List.length_append,List.length_take,List.length_drop,Array.length_toList]
      rw [<- hs2];omega
     ·have hlen:cur2.toList.length=cap*M.length:=by rw [Array.length_toList,hcs]
      have hlen2:cur2.toList.length=cap2*M.length:=by rw [Array.length_toList,hs2]
      have e2:=splice_marks n m k M cur2.toList (by rw [hlen2];exact Nat.mul_le_mul_right _ hk2) ht2 htake (by rw [hlen];exact Nat.mul_le_mul_right _ hroom)
      rw [<- hsize] at e2 ⊢
      simpa using e2
    ·exact .inr ⟨g2,cap2,cur2,rfl,Nat.zero_le _,by rw [setRow_other w g g2 _ hgg];exact hg2,hk2,hc2,hs2,ht2⟩
  ·have holds:∀ j u,(rep n M)[j]? = some u->w.cell? ((⟨g,0,none⟩:Addr).add j)=some u:=hown.cells (g:=g) rfl
   have hr2:=run_append_grow (P:=P) w t ty e i z ht hi hz ⟨g,0,none⟩ n cap (rep n M) (by rw [length_rep,hsize]) holds a m c (rep m M) hl hnews (by omega) (by simp only [maxLen] at h63;omega) (growslice_fits (by omega) hbytes)
   rw [hr2] at hr
   simp only [Result.ok.injEq] at hr
   obtain ⟨rfl,rfl⟩:=hr
   refine ⟨fun k hk=>by simp [Value.ownBlock] at hk;left;omega,hold _⟩
theorem wpList_append_marks {ops:Array Oper}{rest:List Oper}{o:Oper}{ac:Act}{Q:Exit->Act->World->Prop}(hgd:o.guard=none) (s x:Operand) (t:TypeId)
  (ho:o.op=.call { callee:=.builtin .append,args:=#[s,x],argTypes:=#[t,t] })
  (e:TypeId) (i:TypeInfo) (z:Value) (M:List Value) (bytes:Nat) (ht:P.underlying t=some (.slice e)) (hi:P.info? e=some i) (hz:i.zero=some z)
  (hsize:i.size=M.length) (hby:i.bytes=bytes) (hzs:z.cells.size=M.length) (hsz:0 < M.length)
  (v:Value) (n:Nat) (hs:ac.eval s=v) (hown:w.ownsRow 0 e M.length v n (rep n M))
  (a:Addr) (m c:Nat) (hx:ac.eval x=.slice (some a) m c) (hm:0 < m) (hnews:∀ j u,(rep m M)[j]? = some u->w.cell? (a.add j)=some u) (h1:∀ u∈M,u.oneCell'=true)
  (h63:n+m<=maxLen) (hbytes:(n+m)*bytes<=140737488355328)
  (h:∀ a' c' w',Appended e M v w (.slice a' (n+m) c') (n+m) w'->wpList P ops Q rest (ac.put o.dst (.slice a' (n+m) c')) w'):wpList P ops Q (o :: rest) ac w:=by
 obtain ⟨v',w',hr,h2,h3,h4,h5⟩:=run_append_marks (P:=P) w t o.type e i z M bytes ht hi hz hsize hby hzs hsz v n hown a m c hm hnews h1 h63 hbytes
 obtain ⟨a',c',rfl⟩:=owns_slice h2
 refine wpList_plain hgd fun _ hK=>?_
 unfold Oper.wp execOp
 simp only [ho,resolve,invoke,builtin,Sem.run_bind,Sem.run_pure,Result.andThen_ok,List.map_toArray,List.map_cons,List.map_nil,hs,hx,hr]
 exact hK _ _ (h a' c' w' ⟨h2,h3,h4,h5⟩)
end
def setAt:List Value->Nat->List Value->List Value
 | ys,_,[]=>ys
 | ys,o,v :: r=>setAt (ys.set o v) (o+1) r
theorem length_setAt:∀ (vs:List Value) (ys:List Value) (o:Nat),(setAt ys o vs).length=ys.length
 | [],_,_=>rfl
 | v :: r,ys,o=>by rw [setAt,length_setAt r];simp
theorem setAt_eq:∀ (vs:List Value) (ys:List Value) (o:Nat),o+vs.length<=ys.length->setAt ys o vs=ys.take o ++ vs ++ ys.drop (o+vs.length)
 | [],ys,o,_=>by simp [setAt]
 | v :: r,ys,o,h=>by
  simp only [List.length_cons] at h
  rw [setAt,setAt_eq r _ _ (by simp;omega)]
  rw [List.drop_set_of_lt (by omega),List.length_cons]
  have e:(ys.set o v).take (o+1)=ys.take o ++ [v]:=by
   rw [List.take_succ_eq_append_getElem (by simp;omega),List.take_set_of_le (Nat.le_refl _)]
   simp
  rw [e,show o+1+r.length=o+(r.length+1) by omega]
  simp
theorem take_setAt_mark (k:Nat) (M ys:List Value) (h:(k+1)*M.length<=ys.length) (ht:ys.take (k*M.length)=rep k M) :
  (setAt ys (k*M.length) M).take ((k+1)*M.length)=rep (k+1) M:=by
 rw [Nat.succ_mul] at h ⊢
 rw [setAt_eq _ _ _ h,ht,rep_add]
 have e1:rep 1 M=M:=by simp [rep]
 rw [e1,List.take_append_of_le_length (by simp [length_rep]),List.take_of_length_le (by simp [length_rep])]
theorem setCells_owns {base:Nat}{e:TypeId}{size g n cap:Nat}:∀ (vs:List Value) (o:Nat) (w:World) (ys:List Value),w.ownsRow base e size (.slice (some ⟨g,0,none⟩) n cap) n ys ->
  (w.setCells g o vs).ownsRow base e size (.slice (some ⟨g,0,none⟩) n cap) n (setAt ys o vs)/\w.grownBy (w.setCells g o vs) (some g)
 | [],_,w,_,h=>⟨h,rfl,rfl,rfl,Nat.le_refl _,fun _ _ _=>rfl⟩
 | v :: r,o,w,ys,h=>by
  have h1:=h.stored o v
  have h2:=setCells_owns r (o+1) _ _ h1.1
  refine ⟨h2.1,?_⟩
  have a:=h1.2
  have b:=h2.2
  exact ⟨b.os.trans a.os,b.tape.trans a.tape,b.output.trans a.output,Nat.le_trans a.size b.size,fun k hk hne=>(b.block k (Nat.lt_of_lt_of_le hk a.size) hne).trans (a.block k hk hne)⟩
theorem grown_setRow (w:World) (g:Nat) (cs:Array Value):w.grownBy (w.setRow g cs) (some g):=
 ⟨rfl,rfl,rfl,by simp,fun k _ hk=>setRow_other w g k _ (fun e=>hk (by simp [e]))⟩
theorem Fr.setRow {S:Nat->Prop}{a w:World}(h:Fr S a w){g:Nat}(hp:g < a.heap.size->S g) (cs:Array Value):Fr S a (w.setRow g cs):=
 ⟨h.os,h.tape,h.output,by simpa using h.size,fun k hk hs=>by
  rw [setRow_other w g k _ (fun e=>hs (by rw [e];exact hp (by omega)))];exact h.block k hk hs⟩
theorem Appended.block {e:TypeId}{M:List Value}{v:Value}{w:World}{o:Obj}{v':Value}{n':Nat}{w':World}(h:Appended e M v (w.alloc o) v' n' w'){g:Nat}(hg:g < w.heap.size) (hv:v.ownBlock≠some g) :
  w'.heap[g]? = w.heap[g]?:=by
 rw [h.2.1.block g (by simp;omega) (fun x=>hv x.symm),Below.heap_alloc _ _ _ hg]
theorem Appended.size {e:TypeId}{M:List Value}{v:Value}{w:World}{o:Obj}{v':Value}{n':Nat}{w':World}(h:Appended e M v (w.alloc o) v' n' w'):w.heap.size < w'.heap.size:=by
 have:=h.2.1.size
 simp at this
 omega
theorem Appended.fr {e:TypeId}{M:List Value}{v:Value}{a w:World}{o:Obj}{v':Value}{n':Nat}{w':World}(h:Appended e M v (w.alloc o) v' n' w') (hf:Fr (fun k=>v.ownBlock=some k) a w):Fr (fun k=>v.ownBlock=some k) a w':=
 (hf.alloc o).trans (Fr.grown h.2.1)
theorem marks_end {e:TypeId}{M:List Value}{v v1 v2 v3:Value}{n n1 n2 n3:Nat}{w wr w1 w2 w3:World}{o1 o2 o3:Obj}(hf:Fr (fun k=>v.ownBlock=some k) w wr) (hz:w.heap.size < wr.heap.size)
  (hbz:v.ownBlock≠some w.heap.size) (HO:wr.ownsRow 0 e M.length v n (rep n M)) (H1:Appended e M v (wr.alloc o1) v1 n1 w1) (H2:Appended e M v (w1.alloc o2) v2 n2 w2) (H3:Appended e M v (w2.alloc o3) v3 n3 w3) (cs:Array Value) :
  Marked (w3.setRow w.heap.size cs) e M v/\Marked (w3.setRow w.heap.size cs) e M v1/\Marked (w3.setRow w.heap.size cs) e M v2/\Marked (w3.setRow w.heap.size cs) e M v3 /\
  Fr (fun k=>v.ownBlock=some k) w (w3.setRow w.heap.size cs)/\(∀ k,(v1.ownBlock=some k\/v2.ownBlock=some k\/v3.ownBlock=some k)->w.heap.size<=k\/v.ownBlock=some k):=by
 have z1:=H1.size
 have z2:=H2.size
 have z3:=H3.size
 have b1:v1.ownBlock≠some w.heap.size:=fun h=>by
  rcases H1.2.2.1 _ h with h | h
  ·simp at h;omega
  ·exact hbz h
 have b2:v2.ownBlock≠some w.heap.size:=fun h=>by
  rcases H2.2.2.1 _ h with h | h
  ·simp at h;omega
  ·exact hbz h
 have b3:v3.ownBlock≠some w.heap.size:=fun h=>by
  rcases H3.2.2.1 _ h with h | h
  ·simp at h;omega
  ·exact hbz h
 have k0:=H3.2.2.2 _ _ ((H2.2.2.2 _ _ ((H1.2.2.2 _ _ (HO.alloc o1)).alloc o2)).alloc o3)
 have k1:=H3.2.2.2 _ _ ((H2.2.2.2 _ _ (H1.1.alloc o2)).alloc o3)
 have k2:=H3.2.2.2 _ _ (H2.1.alloc o3)
 have G:=grown_setRow w3 w.heap.size cs
 refine ⟨⟨_,k0.kept G (.inr hbz)⟩,⟨_,k1.kept G (.inr b1)⟩,⟨_,k2.kept G (.inr b2)⟩,⟨_,H3.1.kept G (.inr b3)⟩,(H3.fr (H2.fr (H1.fr hf))).setRow (fun h=>absurd h (Nat.lt_irrefl _)) cs,?_⟩
 intro k hk
 rcases hk with h | h | h
 ·rcases H1.2.2.1 _ h with h | h
  ·simp at h;left;omega
  ·exact .inr h
 ·rcases H2.2.2.1 _ h with h | h
  ·simp at h;left;omega
  ·exact .inr h
 ·rcases H3.2.2.1 _ h with h | h
  ·simp at h;left;omega
  ·exact .inr h
theorem cell_news (w:World) (cs:Array Value) (t:TypeId):∀ j u,cs.toList[j]? = some u->(w.alloc (.cells cs t)).cell? ((⟨w.heap.size,0,none⟩:Addr).add j)=some u:=by
 intro j u hj
 rw [Addr.add_mid,cell_of_row _ _ _ cs t (0,0) (heap_alloc_new w _)]
 simpa using hj
theorem size_alloc (w:World) (o:Obj):(w.alloc o).heap.size=w.heap.size+1:=by simp
theorem cell_news2 (w:World) (A:Obj) (cs:Array Value) (t:TypeId):∀ j u,cs.toList[j]? = some u->((w.alloc A).alloc (.cells cs t)).cell? ((⟨w.heap.size+1,0,none⟩:Addr).add j)=some u:=by
 have h:=cell_news (w.alloc A) cs t
 rw [size_alloc] at h
 exact h
theorem owns_there {base:Nat}{e:TypeId}{size g n cap:Nat}{w:World}{ys:List Value}(h:w.ownsRow base e size (.slice (some ⟨g,0,none⟩) n cap) n ys) (o m:Nat) (hm:o+m<=n*size):w.there g o m:=fun j hj=>by
 refine ⟨?_,h.frozenAt _⟩
 rw [h.cellAt _ (by omega),List.getElem?_eq_getElem (by have:=h.1;omega)]
 rfl
open Go.RowKit
def pickI (c n:Int):Int:=(if c < 0 then -(c+1) else c) % n
theorem pick_any (c n:Int) (w:World) (c1:-9223372036854775808<=c) (c2:c<=9223372036854775807) (n1:0 < n) (n2:n<=9223372036854775807) :
  Calls Tryz.prog 37 #[.int .i64 c,.int .i64 n] w fun e w'=>e=.returned (.int .i64 (pickI c n))/\w'=w:=by
 have hb:(n == 0)=false:=beq_eq_false_iff_ne.2 (by omega)
 by_cases h:c < 0
 ·have e1:Hid ((-(c+1)).tmod n=pickI c n):=by
   unfold Hid pickI;rw [if_pos h,Int.tmod_eq_emod_of_nonneg (by omega)]
  go_enter Tryz.func37,Tryz.ntmps37
  go_wp2
  go_ret
  refine ⟨?_,rfl⟩
  have e2:-(c+1).tmod n=pickI c n:=by rw [<- e1.out,Int.neg_tmod]
  exact ret_int e2
 ·have e1:Hid (c % n=pickI c n):=by unfold Hid pickI;rw [if_neg h]
  go_enter Tryz.func37,Tryz.ntmps37
  go_wp2
  go_ret
  exact ⟨ret_int e1.out,rfl⟩
def inI (n lo hi:Int):Bool:=decide (lo<=n/\n<=hi)
theorem in_any (n lo hi:Int) (w:World) :
  Calls Tryz.prog 106 #[.int .i64 n,.int .i64 lo,.int .i64 hi] w fun e w'=>e=.returned (.bool (inI n lo hi))/\w'=w:=by
 by_cases h:lo<=n
 ·go_enter Tryz.func106,Tryz.ntmps106
  go_wp2
  go_ret
  exact ⟨ret_bool (by simp [inI,h]),rfl⟩
 ·have hd:decide (lo<=n)=false:=by simpa using h
  go_enter Tryz.func106,Tryz.ntmps106
  go_wp2
  go_ret
  exact ⟨ret_bool (by simp [inI];omega),rfl⟩
theorem samePlace_any (a b c d:Int) (w:World) :
  Calls Tryz.prog 92 #[.agg #[.int .i64 a,.int .i64 b],.agg #[.int .i64 c,.int .i64 d]] w fun e w'=>e=.returned (.bool (decide (a=c/\b=d)))/\Below w.heap.size w w':=by
 by_cases h:a=c
 ·subst h
  go_enter Tryz.func92,Tryz.ntmps92
  go_wp2
  go_ret
  exact ⟨ret_bool (by simp;rfl),((Below.refl _ _).alloc (Nat.le_refl _) _).alloc (by simp) _⟩
 ·have hd:(a == c)=false:=by simpa using h
  go_enter Tryz.func92,Tryz.ntmps92
  go_wp2
  go_ret
  exact ⟨ret_bool (by simp [h]),((Below.refl _ _).alloc (Nat.le_refl _) _).alloc (by simp) _⟩
theorem samePass_any (a b c d a' b' c' d':Int) (w:World) :
  Calls Tryz.prog 93 #[.agg #[.int .i64 a,.int .i64 b,.int .i64 c,.int .i64 d],.agg #[.int .i64 a',.int .i64 b',.int .i64 c',.int .i64 d']] w fun e w'=>e=.returned (.bool (decide (a=a'/\b=b'/\c=c'/\d=d')))/\Below w.heap.size w w':=by
 by_cases h:a=a'
 ·subst h
  by_cases h:b=b'
  ·subst h
   by_cases h:c=c'
   ·subst h
    go_enter Tryz.func93,Tryz.ntmps93
    go_wp2
    go_ret
    exact ⟨ret_bool (by simp;rfl),((Below.refl _ _).alloc (Nat.le_refl _) _).alloc (by simp) _⟩
   ·have hd:(c == c')=false:=by simpa using h
    go_enter Tryz.func93,Tryz.ntmps93
    go_wp2
    go_ret
    exact ⟨ret_bool (by simp [h]),((Below.refl _ _).alloc (Nat.le_refl _) _).alloc (by simp) _⟩
  ·have hd:(b == b')=false:=by simpa using h
   go_enter Tryz.func93,Tryz.ntmps93
   go_wp2
   go_ret
   exact ⟨ret_bool (by simp [h]),((Below.refl _ _).alloc (Nat.le_refl _) _).alloc (by simp) _⟩
 ·have hd:(a == a')=false:=by simpa using h
  go_enter Tryz.func93,Tryz.ntmps93
  go_wp2
  go_ret
  exact ⟨ret_bool (by simp [h]),((Below.refl _ _).alloc (Nat.le_refl _) _).alloc (by simp) _⟩
theorem sameLeaf_any (a b c d a' b' c' d':Int) (w:World) :
  Calls Tryz.prog 94 #[.agg #[.int .i64 a,.int .i64 b,.int .i64 c,.int .i64 d],.agg #[.int .i64 a',.int .i64 b',.int .i64 c',.int .i64 d']] w fun e w'=>e=.returned (.bool (decide (a=a'/\b=b'/\c=c'/\d=d')))/\Below w.heap.size w w':=by
 by_cases h:a=a'
 ·subst h
  by_cases h:b=b'
  ·subst h
   by_cases h:c=c'
   ·subst h
    go_enter Tryz.func94,Tryz.ntmps94
    go_wp2
    go_ret
    exact ⟨ret_bool (by simp;rfl),((Below.refl _ _).alloc (Nat.le_refl _) _).alloc (by simp) _⟩
   ·have hd:(c == c')=false:=by simpa using h
    go_enter Tryz.func94,Tryz.ntmps94
    go_wp2
    go_ret
    exact ⟨ret_bool (by simp [h]),((Below.refl _ _).alloc (Nat.le_refl _) _).alloc (by simp) _⟩
  ·have hd:(b == b')=false:=by simpa using h
   go_enter Tryz.func94,Tryz.ntmps94
   go_wp2
   go_ret
   exact ⟨ret_bool (by simp [h]),((Below.refl _ _).alloc (Nat.le_refl _) _).alloc (by simp) _⟩
 ·have hd:(a == a')=false:=by simpa using h
  go_enter Tryz.func94,Tryz.ntmps94
  go_wp2
  go_ret
  exact ⟨ret_bool (by simp [h]),((Below.refl _ _).alloc (Nat.le_refl _) _).alloc (by simp) _⟩
theorem marked_cell {w:World}{e:TypeId}{P:List Value}{g n cap:Nat}(h:w.ownsRow 0 e P.length (.slice (some ⟨g,0,none⟩) n cap) n (rep n P)) (k j:Nat) (hk:k < n) (hj:j < P.length) :
  w.cell? ⟨g,k*P.length+j,none⟩=P[j]?:=by
 rw [h.cellAt (k*P.length+j) (by have:(k+1)*P.length<=n*P.length:=Nat.mul_le_mul_right _ hk;rw [Nat.succ_mul] at this;omega)]
 exact rep_get n P k j hk hj
theorem allNumbers_any (v:Value) (mark:Int) (w:World) (m0:0<=mark) (m1:mark<=4611686018427387904) (hm:Marked w 2 [.int .i64 (-1000-mark)] v) :
  Calls Tryz.prog 115 #[v,.int .i64 mark] w fun e w'=>e=.returned (.bool true)/\w'=w:=by
 obtain ⟨n,hown⟩:=hm
 rcases hown.2 with ⟨rfl,rfl⟩ | ⟨g,cap,cur,rfl,_,hg,hnc,hcm,hcs,htake⟩
 ·clear hown
  go_enter Tryz.func115,Tryz.ntmps115
  go_wp2
  go_loop [5] (fun i=>i=.int .i64 0) (fun i=>0)
  case atStart=>rfl
  case round=>
   subst hrel
   go_wp2
   go_ret
   exact ⟨rfl,rfl⟩
 ·have hl:n<=9223372036854775807:=by unfold maxLen at hcm;omega
  have hc:∀ k,k < n->w.cell? ⟨g,k,none⟩=some (.int .i64 (-1000-mark)):=fun k hk=>by
   have:=marked_cell hown k 0 hk (by simp);simpa using this
  clear hown htake hcs hg
  go_enter Tryz.func115,Tryz.ntmps115
  go_wp2
  go_loop [5] (fun i=>∃ k:Nat,k<=n/\i=.int .i64 k) (fun i=>n-(intOf i).toNat)
  case atStart=>exact ⟨0,Nat.zero_le _,rfl⟩
  case round=>
   obtain ⟨k,hk,rfl⟩:=hrel
   by_cases hlt:k < n
   ·have hcell:=hc k hlt
    go_wp2
    exact ⟨⟨k+1,by omega,by go_num⟩,by simp [intOf];omega⟩
   ·go_wp2
    go_ret
    exact ⟨rfl,rfl⟩
theorem allPasses_any (v:Value) (mark:Int) (w:World) (m0:0<=mark) (m1:mark<=4611686018427387904) (hm:Marked w 55 [.int .i64 0,.int .i64 (-1000-mark),.int .i64 0,.int .i64 0] v) :
  Calls Tryz.prog 116 #[v,.int .i64 mark] w fun e w'=>e=.returned (.bool true)/\w'=w:=by
 obtain ⟨n,hown⟩:=hm
 rcases hown.2 with ⟨rfl,rfl⟩ | ⟨g,cap,cur,rfl,_,hg,hnc,hcm,hcs,htake⟩
 ·clear hown
  go_enter Tryz.func116,Tryz.ntmps116
  go_wp2
  go_loop [5] (fun i=>i=.int .i64 0) (fun i=>0)
  case atStart=>rfl
  case round=>
   subst hrel
   go_wp2
   go_ret
   exact ⟨rfl,rfl⟩
 ·have hl:n<=9223372036854775807:=by unfold maxLen at hcm;omega
  have hc0:∀ k,k < n->w.cell? ⟨g,k*4,none⟩=some (.int .i64 0):=fun k hk=>by
   have:=marked_cell hown k 0 hk (by simp);simpa using this
  have hc1:∀ k,k < n->w.cell? ⟨g,k*4+1,none⟩=some (.int .i64 (-1000-mark)):=fun k hk=>by
   have:=marked_cell hown k 1 hk (by simp);simpa using this
  have hc2:∀ k,k < n->w.cell? ⟨g,k*4+2,none⟩=some (.int .i64 0):=fun k hk=>by
   have:=marked_cell hown k 2 hk (by simp);simpa using this
  have hc3:∀ k,k < n->w.cell? ⟨g,k*4+3,none⟩=some (.int .i64 0):=fun k hk=>by
   have:=marked_cell hown k 3 hk (by simp);simpa using this
  clear hown htake hcs hg
  go_enter Tryz.func116,Tryz.ntmps116
  go_wp2
  go_loop [5] (fun i=>∃ k:Nat,k<=n/\i=.int .i64 k) (fun i=>n-(intOf i).toNat)
  case atStart=>exact ⟨0,Nat.zero_le _,rfl⟩
  case round=>
   obtain ⟨k,hk,rfl⟩:=hrel
   by_cases hlt:k < n
   ·have hcell0:=hc0 k hlt
    have hcell1:=hc1 k hlt
    have hcell2:=hc2 k hlt
    have hcell3:=hc3 k hlt
    go_wp2
    exact ⟨⟨k+1,by omega,by go_num⟩,by simp [intOf];omega⟩
   ·go_wp2
    go_ret
    exact ⟨rfl,rfl⟩
theorem allLeaves_any (v:Value) (mark:Int) (w:World) (m0:0<=mark) (m1:mark<=4611686018427387904) (hm:Marked w 67 [.int .i64 0,.int .i64 (-1000-mark),.int .i64 0,.int .i64 0] v) :
  Calls Tryz.prog 117 #[v,.int .i64 mark] w fun e w'=>e=.returned (.bool true)/\w'=w:=by
 obtain ⟨n,hown⟩:=hm
 rcases hown.2 with ⟨rfl,rfl⟩ | ⟨g,cap,cur,rfl,_,hg,hnc,hcm,hcs,htake⟩
 ·clear hown
  go_enter Tryz.func117,Tryz.ntmps117
  go_wp2
  go_loop [5] (fun i=>i=.int .i64 0) (fun i=>0)
  case atStart=>rfl
  case round=>
   subst hrel
   go_wp2
   go_ret
   exact ⟨rfl,rfl⟩
 ·have hl:n<=9223372036854775807:=by unfold maxLen at hcm;omega
  have hc0:∀ k,k < n->w.cell? ⟨g,k*4,none⟩=some (.int .i64 0):=fun k hk=>by
   have:=marked_cell hown k 0 hk (by simp);simpa using this
  have hc1:∀ k,k < n->w.cell? ⟨g,k*4+1,none⟩=some (.int .i64 (-1000-mark)):=fun k hk=>by
   have:=marked_cell hown k 1 hk (by simp);simpa using this
  have hc2:∀ k,k < n->w.cell? ⟨g,k*4+2,none⟩=some (.int .i64 0):=fun k hk=>by
   have:=marked_cell hown k 2 hk (by simp);simpa using this
  have hc3:∀ k,k < n->w.cell? ⟨g,k*4+3,none⟩=some (.int .i64 0):=fun k hk=>by
   have:=marked_cell hown k 3 hk (by simp);simpa using this
  clear hown htake hcs hg
  go_enter Tryz.func117,Tryz.ntmps117
  go_wp2
  go_loop [5] (fun i=>∃ k:Nat,k<=n/\i=.int .i64 k) (fun i=>n-(intOf i).toNat)
  case atStart=>exact ⟨0,Nat.zero_le _,rfl⟩
  case round=>
   obtain ⟨k,hk,rfl⟩:=hrel
   by_cases hlt:k < n
   ·have hcell0:=hc0 k hlt
    have hcell1:=hc1 k hlt
    have hcell2:=hc2 k hlt
    have hcell3:=hc3 k hlt
    go_wp2
    exact ⟨⟨k+1,by omega,by go_num⟩,by simp [intOf];omega⟩
   ·go_wp2
    go_ret
    exact ⟨rfl,rfl⟩
theorem stillNumbers_any (v0 v1 v2 v3:Value) (mark:Int) (w:World) (m0:0<=mark) (m1:mark<=4611686018427387904)
  (h0:Marked w 2 [.int .i64 (-1000-mark)] v0) (h1:Marked w 2 [.int .i64 (-1000-mark)] v1) (h2:Marked w 2 [.int .i64 (-1000-mark)] v2) (h3:Marked w 2 [.int .i64 (-1000-mark)] v3) :
  Calls Tryz.prog 71 #[.agg #[v0,v1,v2,v3,.int .i64 mark]] w fun e w'=>e=.returned (.bool true)/\Below w.heap.size w w':=by
 have k0:=h0.kept ((Fr.refl (fun _=>False) w).alloc (.cells #[v0,v1,v2,v3,.int .i64 mark] 138)) (fun _ _ h=>h)
 have k1:=h1.kept ((Fr.refl (fun _=>False) w).alloc (.cells #[v0,v1,v2,v3,.int .i64 mark] 138)) (fun _ _ h=>h)
 have k2:=h2.kept ((Fr.refl (fun _=>False) w).alloc (.cells #[v0,v1,v2,v3,.int .i64 mark] 138)) (fun _ _ h=>h)
 have k3:=h3.kept ((Fr.refl (fun _=>False) w).alloc (.cells #[v0,v1,v2,v3,.int .i64 mark] 138)) (fun _ _ h=>h)
 have K0:=hid k0
 have K1:=hid k1
 have K2:=hid k2
 have K3:=hid k3
 clear k0 k1 k2 k3 h0 h1 h2 h3
 go_enter Tryz.func71,Tryz.ntmps71
 go_wp2_with fail
 refine (allNumbers_any v0 mark _ m0 m1 K0.out).mono ?_
 rintro e w' ⟨rfl,rfl⟩
 go_wp2_with fail
 refine (allNumbers_any v1 mark _ m0 m1 K1.out).mono ?_
 rintro e w' ⟨rfl,rfl⟩
 go_wp2_with fail
 refine (allNumbers_any v2 mark _ m0 m1 K2.out).mono ?_
 rintro e w' ⟨rfl,rfl⟩
 go_wp2_with fail
 refine (allNumbers_any v3 mark _ m0 m1 K3.out).mono ?_
 rintro e w' ⟨rfl,rfl⟩
 go_wp2
 go_ret
 exact ⟨rfl,(Below.refl _ _).alloc (Nat.le_refl _) _⟩
theorem stillPasses_any (v0 v1 v2 v3:Value) (mark:Int) (w:World) (m0:0<=mark) (m1:mark<=4611686018427387904)
  (h0:Marked w 55 [.int .i64 0,.int .i64 (-1000-mark),.int .i64 0,.int .i64 0] v0) (h1:Marked w 55 [.int .i64 0,.int .i64 (-1000-mark),.int .i64 0,.int .i64 0] v1) (h2:Marked w 55 [.int .i64 0,.int .i64 (-1000-mark),.int .i64 0,.int .i64 0] v2) (h3:Marked w 55 [.int .i64 0,.int .i64 (-1000-mark),.int .i64 0,.int .i64 0] v3) :
  Calls Tryz.prog 72 #[.agg #[v0,v1,v2,v3,.int .i64 mark]] w fun e w'=>e=.returned (.bool true)/\Below w.heap.size w w':=by
 have k0:=h0.kept ((Fr.refl (fun _=>False) w).alloc (.cells #[v0,v1,v2,v3,.int .i64 mark] 140)) (fun _ _ h=>h)
 have k1:=h1.kept ((Fr.refl (fun _=>False) w).alloc (.cells #[v0,v1,v2,v3,.int .i64 mark] 140)) (fun _ _ h=>h)
 have k2:=h2.kept ((Fr.refl (fun _=>False) w).alloc (.cells #[v0,v1,v2,v3,.int .i64 mark] 140)) (fun _ _ h=>h)
 have k3:=h3.kept ((Fr.refl (fun _=>False) w).alloc (.cells #[v0,v1,v2,v3,.int .i64 mark] 140)) (fun _ _ h=>h)
 have K0:=hid k0
 have K1:=hid k1
 have K2:=hid k2
 have K3:=hid k3
 clear k0 k1 k2 k3 h0 h1 h2 h3
 go_enter Tryz.func72,Tryz.ntmps72
 go_wp2_with fail
 refine (allPasses_any v0 mark _ m0 m1 K0.out).mono ?_
 rintro e w' ⟨rfl,rfl⟩
 go_wp2_with fail
 refine (allPasses_any v1 mark _ m0 m1 K1.out).mono ?_
 rintro e w' ⟨rfl,rfl⟩
 go_wp2_with fail
 refine (allPasses_any v2 mark _ m0 m1 K2.out).mono ?_
 rintro e w' ⟨rfl,rfl⟩
 go_wp2_with fail
 refine (allPasses_any v3 mark _ m0 m1 K3.out).mono ?_
 rintro e w' ⟨rfl,rfl⟩
 go_wp2
 go_ret
 exact ⟨rfl,(Below.refl _ _).alloc (Nat.le_refl _) _⟩
theorem stillLeaves_any (v0 v1 v2 v3:Value) (mark:Int) (w:World) (m0:0<=mark) (m1:mark<=4611686018427387904)
  (h0:Marked w 67 [.int .i64 0,.int .i64 (-1000-mark),.int .i64 0,.int .i64 0] v0) (h1:Marked w 67 [.int .i64 0,.int .i64 (-1000-mark),.int .i64 0,.int .i64 0] v1) (h2:Marked w 67 [.int .i64 0,.int .i64 (-1000-mark),.int .i64 0,.int .i64 0] v2) (h3:Marked w 67 [.int .i64 0,.int .i64 (-1000-mark),.int .i64 0,.int .i64 0] v3) :
  Calls Tryz.prog 73 #[.agg #[v0,v1,v2,v3,.int .i64 mark]] w fun e w'=>e=.returned (.bool true)/\Below w.heap.size w w':=by
 have k0:=h0.kept ((Fr.refl (fun _=>False) w).alloc (.cells #[v0,v1,v2,v3,.int .i64 mark] 142)) (fun _ _ h=>h)
 have k1:=h1.kept ((Fr.refl (fun _=>False) w).alloc (.cells #[v0,v1,v2,v3,.int .i64 mark] 142)) (fun _ _ h=>h)
 have k2:=h2.kept ((Fr.refl (fun _=>False) w).alloc (.cells #[v0,v1,v2,v3,.int .i64 mark] 142)) (fun _ _ h=>h)
 have k3:=h3.kept ((Fr.refl (fun _=>False) w).alloc (.cells #[v0,v1,v2,v3,.int .i64 mark] 142)) (fun _ _ h=>h)
 have K0:=hid k0
 have K1:=hid k1
 have K2:=hid k2
 have K3:=hid k3
 clear k0 k1 k2 k3 h0 h1 h2 h3
 go_enter Tryz.func73,Tryz.ntmps73
 go_wp2_with fail
 refine (allLeaves_any v0 mark _ m0 m1 K0.out).mono ?_
 rintro e w' ⟨rfl,rfl⟩
 go_wp2_with fail
 refine (allLeaves_any v1 mark _ m0 m1 K1.out).mono ?_
 rintro e w' ⟨rfl,rfl⟩
 go_wp2_with fail
 refine (allLeaves_any v2 mark _ m0 m1 K2.out).mono ?_
 rintro e w' ⟨rfl,rfl⟩
 go_wp2_with fail
 refine (allLeaves_any v3 mark _ m0 m1 K3.out).mono ?_
 rintro e w' ⟨rfl,rfl⟩
 go_wp2
 go_ret
 exact ⟨rfl,(Below.refl _ _).alloc (Nat.le_refl _) _⟩
open Go.RowKit
theorem Tryz.infoN2:(Tryz.prog.info? 2).map (fun i=>(i.zero,i.size,i.bytes))=some (some (.int .i64 0),1,8):=by kernel_rfl
theorem Tryz.infoN55:(Tryz.prog.info? 55).map (fun i=>(i.zero,i.size,i.bytes))=some (some (.agg #[.int .i64 0,.int .i64 0,.int .i64 0,.int .i64 0]),4,32):=by kernel_rfl
theorem Tryz.infoN67:(Tryz.prog.info? 67).map (fun i=>(i.zero,i.size,i.bytes))=some (some (.agg #[.int .i64 0,.int .i64 0,.int .i64 0,.int .i64 0]),4,32):=by kernel_rfl
theorem ownNumbers_any (v:Value) (n:Nat) (xs:List Value) (mark:Int) (w:World) (m0:0<=mark) (m1:mark<=4611686018427387904)
  (hown:w.ownsRow 0 2 1 v n xs) (hn:n<=1000000) :
  Calls Tryz.prog 146 #[v,.int .i64 mark] w fun e w'=>∃ v1 v2 v3,e=.returned (.agg #[v,v1,v2,v3,.int .i64 mark]) /\
   Marked w' 2 [.int .i64 (-1000-mark)] v/\Marked w' 2 [.int .i64 (-1000-mark)] v1/\Marked w' 2 [.int .i64 (-1000-mark)] v2/\Marked w' 2 [.int .i64 (-1000-mark)] v3 /\
   Fr (fun k=>v.ownBlock=some k) w w' /\
   (∀ k,(v1.ownBlock=some k\/v2.ownBlock=some k\/v3.ownBlock=some k)->w.heap.size<=k\/v.ownBlock=some k):=by
 obtain ⟨len,cap,a,rfl,hlen⟩:∃ len cap a,v=.slice a len cap/\len=n:=by
  rcases hown.2 with ⟨rfl,rfl⟩ | ⟨g,cap,cur,rfl,_⟩
  ·exact ⟨_,_,_,rfl,rfl⟩
  ·exact ⟨_,_,_,rfl,rfl⟩
 subst hlen
 have hlt0:=hid hown.lt
 obtain ⟨i0,hi,hz0,hz1,hz2⟩:=info_parts Tryz.infoN2
 go_enter Tryz.func146,Tryz.ntmps146
 go_wp2
 go_loopw [6] (fun i w'=>∃ (k:Nat) (ys:List Value),k<=len/\i=.int .i64 k/\w'.ownsRow 0 2 1 (.slice a len cap) len ys/\Hid (ys.take (k*1)=rep k [.int .i64 (-1000-mark)])/\Fr (fun k=>Value.ownBlock (.slice a len cap)=some k) w w'/\w.heap.size+1<=w'.heap.size/\Hid (w'.heap[w.heap.size]? = some (.cells #[.slice none 0 0,.slice none 0 0,.slice none 0 0,.slice none 0 0,.int .i64 0] 138 (0,0)))) (fun i _=>len-(intOf i).toNat)
 case atStart=>exact ⟨0,xs,Nat.zero_le _,rfl,hown.alloc _,by simp [Hid,rep],(Fr.refl _ _).alloc _,by simp,heap_alloc_new _ _⟩
 case round=>
  obtain ⟨k,ys,hk,rfl,ho,hys,hf,hz,hcs⟩:=hrel
  by_cases hlt:k < len
  ·rcases ho.2 with ⟨hx,hy⟩ | ⟨g,cap',cur,hx,_,hg,hnc,hcm,hsz,htk⟩
   ·omega
   ·simp only [Value.slice.injEq,true_and] at hx
    obtain ⟨rfl,rfl⟩:=hx
    have hlen:ys.length=len:=by simpa using ho.1
    have hcell:wr.cell? ⟨g,k,none⟩=some ys[k]:=by rw [ho.cellAt k (by omega),List.getElem?_eq_getElem (by omega)]
    have hfr:wr.frozen? ⟨g,k,none⟩=false:=ho.frozenAt k
    have HST:=hid (ho.stored k (.int .i64 (-1000-mark)))
    have hne:g≠w.heap.size:=by have:=hlt0.out g rfl;omega
    have HL:Hid (ys.length=len):=hlen
    clear hg htk
    go_wp2
    refine ⟨⟨k+1,ys.set k (.int .i64 (-1000-mark)),by omega,by go_num,HST.out.1,?_,hf.setCell (p:=⟨g,k,none⟩) (fun _=>rfl) _,by simpa [World.setCell] using hz,?_⟩,by simp [intOf];omega⟩
    ·have:=take_setAt_mark k [.int .i64 (-1000-mark)] ys (by simp [HL.out];omega) (by simpa using hys.out)
     simpa [setAt,Hid] using this
    ·unfold Hid
     rw [Below.heap_setCell _ _ _ _ (fun h=>hne h.symm)];exact hcs.out
  ·have ek:k=len:=by omega
   subst ek
   have eys:ys=rep k [.int .i64 (-1000-mark)]:=by
    have h:=hys.out;rw [List.take_of_length_le (by have:=ho.1;omega)] at h;exact h
   subst eys
   clear hys hown
   have HO:=hid ho
   have hbz:Hid (Value.ownBlock (.slice a k cap)≠some w.heap.size):=fun h=>by have:=hlt0.out _ h;omega
   clear ho
   go_wp2_with (first
    | (at_builtin;refine wpList_append_marks _ rfl _ _ 39 rfl 2 i0 (.int .i64 0) [.int .i64 (-1000-mark)] 8 Tryz.underlying39 hi hz0 hz1 hz2 rfl (by simp) (.slice a k cap) k rfl (HO.out.alloc _) ⟨wr.heap.size,0,none⟩ 1 1 rfl (by decide) (fun j u h=>cell_news _ #[.int .i64 (-1000-mark)] _ j u h) (fun u hu=>by simp at hu;subst hu;rfl) (by unfold maxLen;omega) (by omega) ?_;intro a1 c1 w1 H1)
    | (at_builtin;refine wpList_append_marks _ rfl _ _ 39 rfl 2 i0 (.int .i64 0) [.int .i64 (-1000-mark)] 8 Tryz.underlying39 hi hz0 hz1 hz2 rfl (by simp) (.slice a k cap) k rfl ((H1.2.2.2 _ _ (HO.out.alloc _)).alloc _) ⟨w1.heap.size,0,none⟩ 2 2 rfl (by decide) (fun j u h=>cell_news _ #[.int .i64 (-1000-mark),.int .i64 (-1000-mark)] _ j u h) (fun u hu=>by simp at hu;subst hu;rfl) (by unfold maxLen;omega) (by omega) ?_;intro a2 c2 w2 H2)
    | (at_builtin;refine wpList_append_marks _ rfl _ _ 39 rfl 2 i0 (.int .i64 0) [.int .i64 (-1000-mark)] 8 Tryz.underlying39 hi hz0 hz1 hz2 rfl (by simp) (.slice a k cap) k rfl ((H2.2.2.2 _ _ ((H1.2.2.2 _ _ (HO.out.alloc _)).alloc _)).alloc _) ⟨w2.heap.size,0,none⟩ 3 3 rfl (by decide) (fun j u h=>cell_news _ #[.int .i64 (-1000-mark),.int .i64 (-1000-mark),.int .i64 (-1000-mark)] _ j u h) (fun u hu=>by simp at hu;subst hu;rfl) (by unfold maxLen;omega) (by omega) ?_;intro a3 c3 w3 H3;have hbk:Hid (w3.heap[w.heap.size]? = some (.cells #[.slice none 0 0,.slice none 0 0,.slice none 0 0,.slice none 0 0,.int .i64 0] 138 (0,0))):=by (rw [Hid,H3.block (by have:=H1.size;have:=H2.size;omega) hbz.out,H2.block (by have:=H1.size;omega) hbz.out,H1.block (by omega) hbz.out];exact hcs.out))
    | (with_reducible (show wpList _ _ _ (⟨_,.store 138 _ _,_,_,_,none⟩ :: _) _ _);go_must (refine wpList_store_row rfl 138 _ _ rfl w.heap.size #[.slice a k cap,.slice a1 (k+1) c1,.slice a2 (k+2) c2,.slice a3 (k+3) c3,.int .i64 mark] rfl rfl 138 #[.slice none 0 0,.slice none 0 0,.slice none 0 0,.slice none 0 0,.int .i64 0] hbk.out (by kernel_rfl) rfl ?_ ?_);(simp [Value.oneCell'])))
   refine bodyPost_ret (v:=.agg #[.slice a k cap,.slice a1 (k+1) c1,.slice a2 (k+2) c2,.slice a3 (k+3) c3,.int .i64 mark]) (results_cell_row Tryz.results146 _ _ w.heap.size 138 _ (0,0) _ rfl (setRow_heap _ _ _ _ _ _ hbk.out) Tryz.underlying138 rfl (by kernel_rfl)) rfl ⟨_,_,_,rfl,?_⟩
   exact marks_end hf (by omega) hbz.out HO.out H1 H2 H3 _
theorem ownPasses_any (v:Value) (n:Nat) (xs:List Value) (mark:Int) (w:World) (m0:0<=mark) (m1:mark<=4611686018427387904)
  (hown:w.ownsRow 0 55 4 v n xs) (hn:n<=1000000) :
  Calls Tryz.prog 147 #[v,.int .i64 mark] w fun e w'=>∃ v1 v2 v3,e=.returned (.agg #[v,v1,v2,v3,.int .i64 mark]) /\
   Marked w' 55 [.int .i64 0,.int .i64 (-1000-mark),.int .i64 0,.int .i64 0] v/\Marked w' 55 [.int .i64 0,.int .i64 (-1000-mark),.int .i64 0,.int .i64 0] v1/\Marked w' 55 [.int .i64 0,.int .i64 (-1000-mark),.int .i64 0,.int .i64 0] v2/\Marked w' 55 [.int .i64 0,.int .i64 (-1000-mark),.int .i64 0,.int .i64 0] v3 /\
   Fr (fun k=>v.ownBlock=some k) w w' /\
   (∀ k,(v1.ownBlock=some k\/v2.ownBlock=some k\/v3.ownBlock=some k)->w.heap.size<=k\/v.ownBlock=some k):=by
 obtain ⟨len,cap,a,rfl,hlen⟩:∃ len cap a,v=.slice a len cap/\len=n:=by
  rcases hown.2 with ⟨rfl,rfl⟩ | ⟨g,cap,cur,rfl,_⟩
  ·exact ⟨_,_,_,rfl,rfl⟩
  ·exact ⟨_,_,_,rfl,rfl⟩
 subst hlen
 have hlt0:=hid hown.lt
 obtain ⟨i0,hi,hz0,hz1,hz2⟩:=info_parts Tryz.infoN55
 go_enter Tryz.func147,Tryz.ntmps147
 go_wp2
 go_loopw [6] (fun i w'=>∃ (k:Nat) (ys:List Value),k<=len/\i=.int .i64 k/\w'.ownsRow 0 55 4 (.slice a len cap) len ys/\Hid (ys.take (k*4)=rep k [.int .i64 0,.int .i64 (-1000-mark),.int .i64 0,.int .i64 0])/\Fr (fun k=>Value.ownBlock (.slice a len cap)=some k) w w'/\w.heap.size+2<=w'.heap.size/\Hid (w'.heap[w.heap.size]? = some (.cells #[.slice none 0 0,.slice none 0 0,.slice none 0 0,.slice none 0 0,.int .i64 0] 140 (0,0)))/\Hid (w'.heap[w.heap.size+1]? = some (.cells #[.int .i64 0,.int .i64 (-1000-mark),.int .i64 0,.int .i64 0] 55 (0,0)))) (fun i _=>len-(intOf i).toNat)
 case atStart=>exact ⟨0,xs,Nat.zero_le _,rfl,(hown.alloc _).alloc _,by simp [Hid,rep],((Fr.refl _ _).alloc _).alloc _,by simp,heap_alloc2_old _ _ _,heap_alloc2_new _ _ _⟩
 case round=>
  obtain ⟨k,ys,hk,rfl,ho,hys,hf,hz,hcs,hx0⟩:=hrel
  by_cases hlt:k < len
  ·rcases ho.2 with ⟨hx,hy⟩ | ⟨g,cap',cur,hx,_,hg,hnc,hcm,hsz,htk⟩
   ·omega
   ·simp only [Value.slice.injEq,true_and] at hx
    obtain ⟨rfl,rfl⟩:=hx
    have hlen:ys.length=len*4:=ho.1
    have hbound:k*4+4<=len*4:=by omega
    have HST:=hid (setCells_owns [.int .i64 0,.int .i64 (-1000-mark),.int .i64 0,.int .i64 0] (k*4) _ _ ho)
    have hne:g≠w.heap.size:=by have:=hlt0.out g rfl;omega
    have hne1:g≠w.heap.size+1:=by have:=hlt0.out g rfl;omega
    have HL:Hid (ys.length=len*4):=hlen
    have HT:=hid (owns_there ho (k*4) 4 hbound)
    clear hg htk hlen
    go_wp2_with (first
     | (with_reducible (show wpList _ _ _ (⟨_,.load 55 _,_,_,_,none⟩ :: _) _ _);go_must (refine wpList_load_row rfl 55 _ rfl (w.heap.size+1) rfl 55 _ (0,0) _ hx0.out Tryz.underlying55 rfl (by kernel_rfl) ?_))
     | (with_reducible (show wpList _ _ _ (⟨_,.store 55 _ _,_,_,_,none⟩ :: _) _ _);go_must (refine wpList_store_mid rfl 55 _ _ rfl g (k*4) #[.int .i64 0,.int .i64 (-1000-mark),.int .i64 0,.int .i64 0] rfl rfl (by simpa using HT.out) (by kernel_rfl) ?_ ?_);(simp [Value.oneCell'])))
    refine ⟨⟨k+1,setAt ys (k*4) [.int .i64 0,.int .i64 (-1000-mark),.int .i64 0,.int .i64 0],by omega,by go_num,HST.out.1,?_,hf.trans ((Fr.grown HST.out.2).mono (fun q _ h=>h)),Nat.le_trans hz HST.out.2.size,?_,?_⟩,by simp [intOf];omega⟩
    ·exact take_setAt_mark k [.int .i64 0,.int .i64 (-1000-mark),.int .i64 0,.int .i64 0] ys (by simp [HL.out];omega) hys.out
    ·unfold Hid
     rw [HST.out.2.block _ (by omega) (fun h=>hne (by simpa using h.symm))];exact hcs.out
    ·unfold Hid
     rw [HST.out.2.block _ (by omega) (fun h=>hne1 (by simpa using h.symm))];exact hx0.out
  ·have ek:k=len:=by omega
   subst ek
   have eys:ys=rep k [.int .i64 0,.int .i64 (-1000-mark),.int .i64 0,.int .i64 0]:=by
    have h:=hys.out;rw [List.take_of_length_le (by have:=ho.1;omega)] at h;exact h
   subst eys
   clear hys hown
   have HO:=hid ho
   have hbz:Hid (Value.ownBlock (.slice a k cap)≠some w.heap.size):=fun h=>by have:=hlt0.out _ h;omega
   clear ho
   have hbx:Hid (Value.ownBlock (.slice a k cap)≠some (w.heap.size+1)):=fun h=>by have:=hlt0.out _ h;omega
   go_wp2_with (first
    | (at_builtin;refine wpList_append_marks _ rfl _ _ 29 rfl 55 i0 (.agg #[.int .i64 0,.int .i64 0,.int .i64 0,.int .i64 0]) [.int .i64 0,.int .i64 (-1000-mark),.int .i64 0,.int .i64 0] 32 Tryz.underlying29 hi hz0 hz1 hz2 rfl (by simp) (.slice a k cap) k rfl (HO.out.alloc _) ⟨wr.heap.size,0,none⟩ 1 1 rfl (by decide) (fun j u h=>cell_news _ #[.int .i64 0,.int .i64 (-1000-mark),.int .i64 0,.int .i64 0] _ j u h) (fun u hu=>by simp at hu;rcases hu with rfl | rfl | rfl | rfl <;> rfl) (by unfold maxLen;omega) (by omega) ?_;intro a1 c1 w1 H1;have hx1:Hid (w1.heap[w.heap.size+1]? = some (.cells #[.int .i64 0,.int .i64 (-1000-mark),.int .i64 0,.int .i64 0] 55 (0,0))):=by (rw [Hid,H1.block (by omega) hbx.out];exact hx0.out))
    | (at_builtin;refine wpList_append_marks _ rfl _ _ 29 rfl 55 i0 (.agg #[.int .i64 0,.int .i64 0,.int .i64 0,.int .i64 0]) [.int .i64 0,.int .i64 (-1000-mark),.int .i64 0,.int .i64 0] 32 Tryz.underlying29 hi hz0 hz1 hz2 rfl (by simp) (.slice a k cap) k rfl ((H1.2.2.2 _ _ (HO.out.alloc _)).alloc _) ⟨w1.heap.size,0,none⟩ 2 2 rfl (by decide) (fun j u h=>cell_news _ #[.int .i64 0,.int .i64 (-1000-mark),.int .i64 0,.int .i64 0,.int .i64 0,.int .i64 (-1000-mark),.int .i64 0,.int .i64 0] _ j u h) (fun u hu=>by simp at hu;rcases hu with rfl | rfl | rfl | rfl <;> rfl) (by unfold maxLen;omega) (by omega) ?_;intro a2 c2 w2 H2;have hx2:Hid (w2.heap[w.heap.size+1]? = some (.cells #[.int .i64 0,.int .i64 (-1000-mark),.int .i64 0,.int .i64 0] 55 (0,0))):=by (rw [Hid,H2.block (by have:=H1.size;omega) hbx.out];exact hx1.out))
    | (at_builtin;refine wpList_append_marks _ rfl _ _ 29 rfl 55 i0 (.agg #[.int .i64 0,.int .i64 0,.int .i64 0,.int .i64 0]) [.int .i64 0,.int .i64 (-1000-mark),.int .i64 0,.int .i64 0] 32 Tryz.underlying29 hi hz0 hz1 hz2 rfl (by simp) (.slice a k cap) k rfl ((H2.2.2.2 _ _ ((H1.2.2.2 _ _ (HO.out.alloc _)).alloc _)).alloc _) ⟨w2.heap.size,0,none⟩ 3 3 rfl (by decide) (fun j u h=>cell_news _ #[.int .i64 0,.int .i64 (-1000-mark),.int .i64 0,.int .i64 0,.int .i64 0,.int .i64 (-1000-mark),.int .i64 0,.int .i64 0,.int .i64 0,.int .i64 (-1000-mark),.int .i64 0,.int .i64 0] _ j u h) (fun u hu=>by simp at hu;rcases hu with rfl | rfl | rfl | rfl <;> rfl) (by unfold maxLen;omega) (by omega) ?_;intro a3 c3 w3 H3;have hbk:Hid (w3.heap[w.heap.size]? = some (.cells #[.slice none 0 0,.slice none 0 0,.slice none 0 0,.slice none 0 0,.int .i64 0] 140 (0,0))):=by (rw [Hid,H3.block (by have:=H1.size;have:=H2.size;omega) hbz.out,H2.block (by have:=H1.size;omega) hbz.out,H1.block (by omega) hbz.out];exact hcs.out))
    | (with_reducible (show wpList _ _ _ (⟨_,.store 140 _ _,_,_,_,none⟩ :: _) _ _);go_must (refine wpList_store_row rfl 140 _ _ rfl w.heap.size #[.slice a k cap,.slice a1 (k+1) c1,.slice a2 (k+2) c2,.slice a3 (k+3) c3,.int .i64 mark] rfl rfl 140 #[.slice none 0 0,.slice none 0 0,.slice none 0 0,.slice none 0 0,.int .i64 0] hbk.out (by kernel_rfl) rfl ?_ ?_);(simp [Value.oneCell']))
    | (with_reducible (show wpList _ _ _ (⟨_,.load 55 _,_,_,_,none⟩ :: _) _ wr);go_must (refine wpList_load_row rfl 55 _ rfl (w.heap.size+1) rfl 55 _ (0,0) _ hx0.out Tryz.underlying55 rfl (by kernel_rfl) ?_))
    | (with_reducible (show wpList _ _ _ (⟨_,.load 55 _,_,_,_,none⟩ :: _) _ w1);go_must (refine wpList_load_row rfl 55 _ rfl (w.heap.size+1) rfl 55 _ (0,0) _ hx1.out Tryz.underlying55 rfl (by kernel_rfl) ?_))
    | (with_reducible (show wpList _ _ _ (⟨_,.load 55 _,_,_,_,none⟩ :: _) _ w2);go_must (refine wpList_load_row rfl 55 _ rfl (w.heap.size+1) rfl 55 _ (0,0) _ hx2.out Tryz.underlying55 rfl (by kernel_rfl) ?_)))
   refine bodyPost_ret (v:=.agg #[.slice a k cap,.slice a1 (k+1) c1,.slice a2 (k+2) c2,.slice a3 (k+3) c3,.int .i64 mark]) (results_cell_row Tryz.results147 _ _ w.heap.size 140 _ (0,0) _ rfl (setRow_heap _ _ _ _ _ _ hbk.out) Tryz.underlying140 rfl (by kernel_rfl)) rfl ⟨_,_,_,rfl,?_⟩
   exact marks_end hf (by omega) hbz.out HO.out H1 H2 H3 _
theorem ownLeaves_any (v:Value) (n:Nat) (xs:List Value) (mark:Int) (w:World) (m0:0<=mark) (m1:mark<=4611686018427387904)
  (hown:w.ownsRow 0 67 4 v n xs) (hn:n<=1000000) :
  Calls Tryz.prog 148 #[v,.int .i64 mark] w fun e w'=>∃ v1 v2 v3,e=.returned (.agg #[v,v1,v2,v3,.int .i64 mark]) /\
   Marked w' 67 [.int .i64 0,.int .i64 (-1000-mark),.int .i64 0,.int .i64 0] v/\Marked w' 67 [.int .i64 0,.int .i64 (-1000-mark),.int .i64 0,.int .i64 0] v1/\Marked w' 67 [.int .i64 0,.int .i64 (-1000-mark),.int .i64 0,.int .i64 0] v2/\Marked w' 67 [.int .i64 0,.int .i64 (-1000-mark),.int .i64 0,.int .i64 0] v3 /\
   Fr (fun k=>v.ownBlock=some k) w w' /\
   (∀ k,(v1.ownBlock=some k\/v2.ownBlock=some k\/v3.ownBlock=some k)->w.heap.size<=k\/v.ownBlock=some k):=by
 obtain ⟨len,cap,a,rfl,hlen⟩:∃ len cap a,v=.slice a len cap/\len=n:=by
  rcases hown.2 with ⟨rfl,rfl⟩ | ⟨g,cap,cur,rfl,_⟩
  ·exact ⟨_,_,_,rfl,rfl⟩
  ·exact ⟨_,_,_,rfl,rfl⟩
 subst hlen
 have hlt0:=hid hown.lt
 obtain ⟨i0,hi,hz0,hz1,hz2⟩:=info_parts Tryz.infoN67
 go_enter Tryz.func148,Tryz.ntmps148
 go_wp2
 go_loopw [6] (fun i w'=>∃ (k:Nat) (ys:List Value),k<=len/\i=.int .i64 k/\w'.ownsRow 0 67 4 (.slice a len cap) len ys/\Hid (ys.take (k*4)=rep k [.int .i64 0,.int .i64 (-1000-mark),.int .i64 0,.int .i64 0])/\Fr (fun k=>Value.ownBlock (.slice a len cap)=some k) w w'/\w.heap.size+2<=w'.heap.size/\Hid (w'.heap[w.heap.size]? = some (.cells #[.slice none 0 0,.slice none 0 0,.slice none 0 0,.slice none 0 0,.int .i64 0] 142 (0,0)))/\Hid (w'.heap[w.heap.size+1]? = some (.cells #[.int .i64 0,.int .i64 (-1000-mark),.int .i64 0,.int .i64 0] 67 (0,0)))) (fun i _=>len-(intOf i).toNat)
 case atStart=>exact ⟨0,xs,Nat.zero_le _,rfl,(hown.alloc _).alloc _,by simp [Hid,rep],((Fr.refl _ _).alloc _).alloc _,by simp,heap_alloc2_old _ _ _,heap_alloc2_new _ _ _⟩
 case round=>
  obtain ⟨k,ys,hk,rfl,ho,hys,hf,hz,hcs,hx0⟩:=hrel
  by_cases hlt:k < len
  ·rcases ho.2 with ⟨hx,hy⟩ | ⟨g,cap',cur,hx,_,hg,hnc,hcm,hsz,htk⟩
   ·omega
   ·simp only [Value.slice.injEq,true_and] at hx
    obtain ⟨rfl,rfl⟩:=hx
    have hlen:ys.length=len*4:=ho.1
    have hbound:k*4+4<=len*4:=by omega
    have HST:=hid (setCells_owns [.int .i64 0,.int .i64 (-1000-mark),.int .i64 0,.int .i64 0] (k*4) _ _ ho)
    have hne:g≠w.heap.size:=by have:=hlt0.out g rfl;omega
    have hne1:g≠w.heap.size+1:=by have:=hlt0.out g rfl;omega
    have HL:Hid (ys.length=len*4):=hlen
    have HT:=hid (owns_there ho (k*4) 4 hbound)
    clear hg htk hlen
    go_wp2_with (first
     | (with_reducible (show wpList _ _ _ (⟨_,.load 67 _,_,_,_,none⟩ :: _) _ _);go_must (refine wpList_load_row rfl 67 _ rfl (w.heap.size+1) rfl 67 _ (0,0) _ hx0.out Tryz.underlying67 rfl (by kernel_rfl) ?_))
     | (with_reducible (show wpList _ _ _ (⟨_,.store 67 _ _,_,_,_,none⟩ :: _) _ _);go_must (refine wpList_store_mid rfl 67 _ _ rfl g (k*4) #[.int .i64 0,.int .i64 (-1000-mark),.int .i64 0,.int .i64 0] rfl rfl (by simpa using HT.out) (by kernel_rfl) ?_ ?_);(simp [Value.oneCell'])))
    refine ⟨⟨k+1,setAt ys (k*4) [.int .i64 0,.int .i64 (-1000-mark),.int .i64 0,.int .i64 0],by omega,by go_num,HST.out.1,?_,hf.trans ((Fr.grown HST.out.2).mono (fun q _ h=>h)),Nat.le_trans hz HST.out.2.size,?_,?_⟩,by simp [intOf];omega⟩
    ·exact take_setAt_mark k [.int .i64 0,.int .i64 (-1000-mark),.int .i64 0,.int .i64 0] ys (by simp [HL.out];omega) hys.out
    ·unfold Hid
     rw [HST.out.2.block _ (by omega) (fun h=>hne (by simpa using h.symm))];exact hcs.out
    ·unfold Hid
     rw [HST.out.2.block _ (by omega) (fun h=>hne1 (by simpa using h.symm))];exact hx0.out
  ·have ek:k=len:=by omega
   subst ek
   have eys:ys=rep k [.int .i64 0,.int .i64 (-1000-mark),.int .i64 0,.int .i64 0]:=by
    have h:=hys.out;rw [List.take_of_length_le (by have:=ho.1;omega)] at h;exact h
   subst eys
   clear hys hown
   have HO:=hid ho
   have hbz:Hid (Value.ownBlock (.slice a k cap)≠some w.heap.size):=fun h=>by have:=hlt0.out _ h;omega
   clear ho
   have hbx:Hid (Value.ownBlock (.slice a k cap)≠some (w.heap.size+1)):=fun h=>by have:=hlt0.out _ h;omega
   go_wp2_with (first
    | (at_builtin;refine wpList_append_marks _ rfl _ _ 30 rfl 67 i0 (.agg #[.int .i64 0,.int .i64 0,.int .i64 0,.int .i64 0]) [.int .i64 0,.int .i64 (-1000-mark),.int .i64 0,.int .i64 0] 32 Tryz.underlying30 hi hz0 hz1 hz2 rfl (by simp) (.slice a k cap) k rfl (HO.out.alloc _) ⟨wr.heap.size,0,none⟩ 1 1 rfl (by decide) (fun j u h=>cell_news _ #[.int .i64 0,.int .i64 (-1000-mark),.int .i64 0,.int .i64 0] _ j u h) (fun u hu=>by simp at hu;rcases hu with rfl | rfl | rfl | rfl <;> rfl) (by unfold maxLen;omega) (by omega) ?_;intro a1 c1 w1 H1;have hx1:Hid (w1.heap[w.heap.size+1]? = some (.cells #[.int .i64 0,.int .i64 (-1000-mark),.int .i64 0,.int .i64 0] 67 (0,0))):=by (rw [Hid,H1.block (by omega) hbx.out];exact hx0.out))
    | (at_builtin;refine wpList_append_marks _ rfl _ _ 30 rfl 67 i0 (.agg #[.int .i64 0,.int .i64 0,.int .i64 0,.int .i64 0]) [.int .i64 0,.int .i64 (-1000-mark),.int .i64 0,.int .i64 0] 32 Tryz.underlying30 hi hz0 hz1 hz2 rfl (by simp) (.slice a k cap) k rfl ((H1.2.2.2 _ _ (HO.out.alloc _)).alloc _) ⟨w1.heap.size,0,none⟩ 2 2 rfl (by decide) (fun j u h=>cell_news _ #[.int .i64 0,.int .i64 (-1000-mark),.int .i64 0,.int .i64 0,.int .i64 0,.int .i64 (-1000-mark),.int .i64 0,.int .i64 0] _ j u h) (fun u hu=>by simp at hu;rcases hu with rfl | rfl | rfl | rfl <;> rfl) (by unfold maxLen;omega) (by omega) ?_;intro a2 c2 w2 H2;have hx2:Hid (w2.heap[w.heap.size+1]? = some (.cells #[.int .i64 0,.int .i64 (-1000-mark),.int .i64 0,.int .i64 0] 67 (0,0))):=by (rw [Hid,H2.block (by have:=H1.size;omega) hbx.out];exact hx1.out))
    | (at_builtin;refine wpList_append_marks _ rfl _ _ 30 rfl 67 i0 (.agg #[.int .i64 0,.int .i64 0,.int .i64 0,.int .i64 0]) [.int .i64 0,.int .i64 (-1000-mark),.int .i64 0,.int .i64 0] 32 Tryz.underlying30 hi hz0 hz1 hz2 rfl (by simp) (.slice a k cap) k rfl ((H2.2.2.2 _ _ ((H1.2.2.2 _ _ (HO.out.alloc _)).alloc _)).alloc _) ⟨w2.heap.size,0,none⟩ 3 3 rfl (by decide) (fun j u h=>cell_news _ #[.int .i64 0,.int .i64 (-1000-mark),.int .i64 0,.int .i64 0,.int .i64 0,.int .i64 (-1000-mark),.int .i64 0,.int .i64 0,.int .i64 0,.int .i64 (-1000-mark),.int .i64 0,.int .i64 0] _ j u h) (fun u hu=>by simp at hu;rcases hu with rfl | rfl | rfl | rfl <;> rfl) (by unfold maxLen;omega) (by omega) ?_;intro a3 c3 w3 H3;have hbk:Hid (w3.heap[w.heap.size]? = some (.cells #[.slice none 0 0,.slice none 0 0,.slice none 0 0,.slice none 0 0,.int .i64 0] 142 (0,0))):=by (rw [Hid,H3.block (by have:=H1.size;have:=H2.size;omega) hbz.out,H2.block (by have:=H1.size;omega) hbz.out,H1.block (by omega) hbz.out];exact hcs.out))
    | (with_reducible (show wpList _ _ _ (⟨_,.store 142 _ _,_,_,_,none⟩ :: _) _ _);go_must (refine wpList_store_row rfl 142 _ _ rfl w.heap.size #[.slice a k cap,.slice a1 (k+1) c1,.slice a2 (k+2) c2,.slice a3 (k+3) c3,.int .i64 mark] rfl rfl 142 #[.slice none 0 0,.slice none 0 0,.slice none 0 0,.slice none 0 0,.int .i64 0] hbk.out (by kernel_rfl) rfl ?_ ?_);(simp [Value.oneCell']))
    | (with_reducible (show wpList _ _ _ (⟨_,.load 67 _,_,_,_,none⟩ :: _) _ wr);go_must (refine wpList_load_row rfl 67 _ rfl (w.heap.size+1) rfl 67 _ (0,0) _ hx0.out Tryz.underlying67 rfl (by kernel_rfl) ?_))
    | (with_reducible (show wpList _ _ _ (⟨_,.load 67 _,_,_,_,none⟩ :: _) _ w1);go_must (refine wpList_load_row rfl 67 _ rfl (w.heap.size+1) rfl 67 _ (0,0) _ hx1.out Tryz.underlying67 rfl (by kernel_rfl) ?_))
    | (with_reducible (show wpList _ _ _ (⟨_,.load 67 _,_,_,_,none⟩ :: _) _ w2);go_must (refine wpList_load_row rfl 67 _ rfl (w.heap.size+1) rfl 67 _ (0,0) _ hx2.out Tryz.underlying67 rfl (by kernel_rfl) ?_)))
   refine bodyPost_ret (v:=.agg #[.slice a k cap,.slice a1 (k+1) c1,.slice a2 (k+2) c2,.slice a3 (k+3) c3,.int .i64 mark]) (results_cell_row Tryz.results148 _ _ w.heap.size 142 _ (0,0) _ rfl (setRow_heap _ _ _ _ _ _ hbk.out) Tryz.underlying142 rfl (by kernel_rfl)) rfl ⟨_,_,_,rfl,?_⟩
   exact marks_end hf (by omega) hbz.out HO.out H1 H2 H3 _
open Go.RowKit
theorem flatten_len {s:Nat}:∀ (rows:List (List Value)),(∀ r∈rows,r.length=s)->rows.flatten.length=rows.length*s
 | [],_=>by simp
 | r :: rs,h=>by
  rw [List.flatten_cons,List.length_append,h r (by simp),flatten_len rs (fun x hx=>h x (by simp [hx])),List.length_cons,Nat.succ_mul];omega
theorem flatten_get {s:Nat}:∀ (rows:List (List Value)) (i j:Nat),(∀ r∈rows,r.length=s)->(hi:i < rows.length)->j < s->rows.flatten[i*s+j]? = rows[i][j]?
 | [],i,j,_,hi,_=>by simp at hi
 | r :: rs,0,j,h,_,hj=>by
  have e:r.length=s:=h r (by simp)
  rw [List.flatten_cons,List.getElem?_append_left (by omega)];simp
 | r :: rs,i+1,j,h,hi,hj=>by
  have e:r.length=s:=h r (by simp)
  rw [List.flatten_cons,List.getElem?_append_right (by rw [e,Nat.succ_mul];omega),e,show (i+1)*s+j-s=i*s+j by rw [Nat.succ_mul];omega,
   flatten_get rs i j (fun x hx=>h x (by simp [hx])) (by simpa using hi) hj]
  simp
theorem flatten_set {s:Nat}:∀ (rows:List (List Value)) (i j:Nat) (u:Value),(∀ r∈rows,r.length=s)->(hi:i < rows.length)->j < s ->
  rows.flatten.set (i*s+j) u=(rows.set i (rows[i].set j u)).flatten
 | [],i,j,_,_,hi,_=>by simp at hi
 | r :: rs,0,j,u,h,_,hj=>by
  have e:r.length=s:=h r (by simp)
  rw [List.flatten_cons,Nat.zero_mul,Nat.zero_add,List.set_append_left _ _ (by omega)];simp
 | r :: rs,i+1,j,u,h,hi,hj=>by
  have e:r.length=s:=h r (by simp)
  rw [List.flatten_cons,List.set_append_right _ _ (by rw [e,Nat.succ_mul];omega),e,show (i+1)*s+j-s=i*s+j by rw [Nat.succ_mul];omega,
   flatten_set rs i j u (fun x hx=>h x (by simp [hx])) (by simpa using hi) hj]
  simp
structure Sl (w:World) (e:TypeId) (size:Nat) (v:Value) (rows:List (List Value)):Prop where
 own:w.ownsRow 0 e size v rows.length rows.flatten
 len:∀ r∈rows,r.length=size
theorem Sl.nil (w:World) (e:TypeId) (size:Nat):Sl w e size (.slice none 0 0) []:=⟨World.ownsRow_nil w 0 e size,by simp⟩
theorem Sl.slice {w:World}{e:TypeId}{size:Nat}{v:Value}{rows:List (List Value)}(h:Sl w e size v rows):∃ a c,v=.slice a rows.length c:=owns_slice h.own
theorem Sl.form {w:World}{e:TypeId}{size:Nat}{v:Value}{rows:List (List Value)}(h:Sl w e size v rows) :
  (v=.slice none 0 0/\rows=[])\/∃ g cap,v=.slice (some ⟨g,0,none⟩) rows.length cap/\rows.length<=cap/\cap<=maxLen/\g < w.heap.size:=by
 rcases h.own.2 with ⟨rfl,hn⟩ | ⟨g,cap,cur,rfl,_,hg,h1,h2,_⟩
 ·exact .inl ⟨rfl,List.eq_nil_of_length_eq_zero hn⟩
 ·exact .inr ⟨g,cap,rfl,h1,h2,(Array.getElem?_eq_some_iff.1 hg).1⟩
theorem Sl.is_some {w:World}{e:TypeId}{size:Nat}{a:Option Addr}{n c:Nat}{rows:List (List Value)}(h:Sl w e size (.slice a n c) rows) (hp:0 < n):∃ g,a=some ⟨g,0,none⟩/\n=rows.length:=by
 rcases h.form with ⟨h1,h2⟩ | ⟨g,cap,h1,_⟩
 ·simp at h1;omega
 ·simp at h1;exact ⟨g,h1.1,h1.2.1⟩
theorem Sl.lt {w:World}{e:TypeId}{size:Nat}{v:Value}{rows:List (List Value)}(h:Sl w e size v rows){k:Nat}(hk:v.ownBlock=some k):k < w.heap.size:=(h.own.lt k hk).2
theorem Sl.kept {w w':World}{e:TypeId}{size:Nat}{v:Value}{rows:List (List Value)}(h:Sl w e size v rows){S:Nat->Prop}(hf:Fr S w w') (hs:∀ k,v.ownBlock=some k->¬ S k):Sl w' e size v rows:=by
 refine ⟨⟨h.own.1,?_⟩,h.len⟩
 rcases h.own.2 with h2 | ⟨g,cap,cur,rfl,hb,hg,r⟩
 ·exact .inl h2
 ·exact .inr ⟨g,cap,cur,rfl,hb,by rw [hf.block g (Array.getElem?_eq_some_iff.1 hg).1 (hs g rfl)];exact hg,r⟩
theorem Sl.alloc {w:World}{e:TypeId}{size:Nat}{v:Value}{rows:List (List Value)}(h:Sl w e size v rows) (o:Obj):Sl (w.alloc o) e size v rows:=⟨h.own.alloc o,h.len⟩
theorem owns_fr {w w':World}{base:Nat}{e:TypeId}{size:Nat}{v:Value}{n:Nat}{xs:List Value}(h:w.ownsRow base e size v n xs){S:Nat->Prop}(hf:Fr S w w') (hs:∀ k,v.ownBlock=some k->¬ S k):w'.ownsRow base e size v n xs:=by
 refine ⟨h.1,?_⟩
 rcases h.2 with h2 | ⟨g,cap,cur,rfl,hb,hg,r⟩
 ·exact .inl h2
 ·exact .inr ⟨g,cap,cur,rfl,hb,by rw [hf.block g (Array.getElem?_eq_some_iff.1 hg).1 (hs g rfl)];exact hg,r⟩
theorem owns_drew {w:World}{base:Nat}{e:TypeId}{size:Nat}{v:Value}{n:Nat}{xs:List Value}(h:w.ownsRow base e size v n xs):w.drew.ownsRow base e size v n xs:=h
theorem Sl.drew {w:World}{e:TypeId}{size:Nat}{v:Value}{rows:List (List Value)}(h:Sl w e size v rows):Sl w.drew e size v rows:=⟨h.own,h.len⟩
theorem Sl.below {w w':World}{e:TypeId}{size:Nat}{v:Value}{rows:List (List Value)}(h:Sl w e size v rows) (hb:Below w.heap.size w w'):Sl w' e size v rows:=h.kept (Fr.of_below hb (fun _=>False)) (fun _ _ h=>h)
section
variable {w:World}{e:TypeId}{size g n cap:Nat}{rows:List (List Value)}
theorem Sl.cell (h:Sl w e size (.slice (some ⟨g,0,none⟩) n cap) rows) (i j:Nat) (hi:i < rows.length) (hj:j < size):w.cell? ⟨g,i*size+j,none⟩=rows[i][j]?:=by
 have hn:n=rows.length:=by
  rcases h.own.2 with ⟨h1,_⟩ | ⟨g',cap',cur,h1,_⟩
  ·simp at h1
  ·simp at h1;exact h1.2.1
 subst hn
 rw [h.own.cellAt (i*size+j) (by have:=Nat.mul_le_mul_right size (show i+1<=rows.length from hi);rw [Nat.succ_mul] at this;omega)]
 exact flatten_get rows i j h.len hi hj
theorem Sl.range (h:Sl w e size (.slice (some ⟨g,0,none⟩) n cap) rows) (i:Nat) (hi:i < rows.length):w.rangeAt g (i*size) rows[i]:=fun j v hv=>by
 have hl:=h.len rows[i] (List.getElem_mem hi)
 have hj:j < size:=by have:=(List.getElem?_eq_some_iff.1 hv).1;omega
 rw [h.cell i j hi hj];exact hv
theorem Sl.fro (h:Sl w e size (.slice (some ⟨g,0,none⟩) n cap) rows) (j:Nat):w.frozen? ⟨g,j,none⟩=false:=by
 rcases h.own.2 with ⟨h',_⟩ | ⟨g',cap',cur,h',_,hg,_⟩
 ·simp at h'
 ·simp only [Value.slice.injEq,Option.some.injEq,Addr.mk.injEq,and_true] at h'
  obtain ⟨rfl,_⟩:=h'
  exact frozen_of_row w g j cur e hg
theorem Sl.n_eq (h:Sl w e size (.slice (some ⟨g,0,none⟩) n cap) rows):n=rows.length:=by
 rcases h.own.2 with ⟨h1,_⟩ | ⟨g',cap',cur,h1,_⟩
 ·simp at h1
 ·simp at h1;exact h1.2.1
theorem Sl.set (h:Sl w e size (.slice (some ⟨g,0,none⟩) n cap) rows) (i j:Nat) (u:Value) (hi:i < rows.length) (hj:j < size) :
  Sl (w.setCell ⟨g,i*size+j,none⟩ u) e size (.slice (some ⟨g,0,none⟩) n cap) (rows.set i (rows[i].set j u)):=by
 have hn:=h.n_eq
 subst hn
 have h1:=(h.own.stored (i*size+j) u).1
 rw [flatten_set rows i j u h.len hi hj] at h1
 refine ⟨by simpa using h1,?_⟩
 intro r hr
 rcases List.mem_or_eq_of_mem_set hr with hr | rfl
 ·exact h.len r hr
 ·simp [h.len rows[i] (List.getElem_mem hi)]
end
section
variable {P:Program}(w:World)
structure Grew (e:TypeId) (size:Nat) (v:Value) (w:World) (v':Value) (rows:List (List Value)) (w':World):Prop where
 sl:Sl w' e size v' rows
 by_:w.grownBy w' v.ownBlock
 at_:∀ k,v'.ownBlock=some k->w.heap.size<=k\/v.ownBlock=some k
theorem Grew.old {e:TypeId}{size:Nat}{v:Value}{w:World}{v':Value}{rows:List (List Value)}{w':World}(h:Grew e size v w v' rows w'){g:Nat}(hg:g < w.heap.size) (hv:v.ownBlock≠some g):w'.heap[g]? = w.heap[g]?:=
 h.by_.block g hg (fun x=>hv x.symm)
theorem Grew.fr {e:TypeId}{size:Nat}{v:Value}{a w:World}{v':Value}{rows:List (List Value)}{w':World}(h:Grew e size v w v' rows w'){S:Nat->Prop}(hf:Fr S a w) (hs:∀ k,v.ownBlock=some k->k < a.heap.size->S k):Fr S a w':=
 ⟨h.by_.os.trans hf.os,h.by_.tape.trans hf.tape,h.by_.output.trans hf.output,Nat.le_trans hf.size h.by_.size,fun k hk hn=>
  (h.by_.block k (Nat.lt_of_lt_of_le hk hf.size) (fun x=>hn (hs k x.symm hk))).trans (hf.block k hk hn)⟩
theorem run_append_sl (t ty e:TypeId) (i:TypeInfo) (z:Value) (size bytes:Nat) (ht:P.underlying t=some (.slice e)) (hi:P.info? e=some i) (hz:i.zero=some z)
  (hsize:i.size=size) (hby:i.bytes=bytes) (hzs:z.cells.size=size) (hsz:0 < size)
  (v:Value) (rows:List (List Value)) (hown:Sl w e size v rows)
  (a:Addr) (m c:Nat) (news:List (List Value)) (hm:news.length=m) (hm0:0 < m) (hl:∀ r∈news,r.length=size) (hnews:∀ j u,news.flatten[j]? = some u->w.cell? (a.add j)=some u) (h1:∀ u∈news.flatten,u.oneCell'=true)
  (h63:rows.length+m<=maxLen) (hbytes:(rows.length+m)*bytes<=140737488355328) :
  ∃ a' c' w',(Builtin.append_ #[t,t] ty #[v,.slice (some a) m c]).run P w=.ok (.slice a' (rows.length+m) c') w'/\Grew e size v w (.slice a' (rows.length+m) c') (rows ++ news) w':=by
 subst hby
 subst hm
 have hfl:news.flatten.length=news.length*size:=flatten_len news hl
 obtain ⟨v',w',hr,hO,hG,_⟩:=run_append_own (P:=P) w 0 t ty e i z size i.bytes ht hi hz hsize rfl hzs hsz v rows.length rows.flatten hown.own a news.length c news.flatten hfl hnews h1 h63 hbytes (Nat.zero_le _)
 obtain ⟨a',c',rfl⟩:=owns_slice hO
 refine ⟨a',c',w',hr,⟨⟨by simpa using hO,?_⟩,hG,?_⟩⟩
 ·intro r hr
  rcases List.mem_append.1 hr with h | h
  ·exact hown.len r h
  ·exact hl r h
 ·rcases hown.own.2 with ⟨rfl,hn0⟩ | ⟨g,cap,cur,rfl,hbg,hg,hnc,hcm,hcs,htake⟩
  ·have hr2:=run_append_nil (P:=P) w t ty e i z ht hi hz a news.length c news.flatten (by rw [hfl,hsize]) hnews hm0 (by simp only [maxLen] at h63;omega) (by rw [hn0,Nat.zero_add] at hbytes;omega)
   rw [hr2] at hr
   simp only [Result.ok.injEq,Value.slice.injEq] at hr
   obtain ⟨⟨rfl,_⟩,_⟩:=hr
   intro k hk
   simp [Value.ownBlock] at hk;left;omega
  ·by_cases hroom:rows.length+news.length<=cap
   ·have hfit:rows.length*i.size+news.flatten.length<=cur.size:=by rw [hfl,hcs,hsize,<- Nat.add_mul];exact Nat.mul_le_mul_right _ hroom
    have hr2:=run_append_room (P:=P) w t ty e i ht hi g rows.length cap cur hg a news.length c news.flatten (by rw [hfl,hsize]) hnews h1 hroom hfit
    rw [hr2] at hr
    simp only [Result.ok.injEq,Value.slice.injEq] at hr
    obtain ⟨⟨rfl,_⟩,_⟩:=hr
    intro k hk
    simp [Value.ownBlock] at hk ⊢;right;omega
   ·have holds:∀ j u,rows.flatten[j]? = some u->w.cell? ((⟨g,0,none⟩:Addr).add j)=some u:=hown.own.cells (g:=g) rfl
    have hr2:=run_append_grow (P:=P) w t ty e i z ht hi hz ⟨g,0,none⟩ rows.length cap rows.flatten (by rw [flatten_len rows hown.len,hsize]) holds a news.length c news.flatten (by rw [hfl,hsize]) hnews (by omega) (by simp only [maxLen] at h63;omega) (growslice_fits (by omega) hbytes)
    rw [hr2] at hr
    simp only [Result.ok.injEq,Value.slice.injEq] at hr
    obtain ⟨⟨rfl,_⟩,_⟩:=hr
    intro k hk
    simp [Value.ownBlock] at hk;left;omega
theorem wpList_append_sl {ops:Array Oper}{rest:List Oper}{o:Oper}{ac:Act}{Q:Exit->Act->World->Prop}(hgd:o.guard=none) (s x:Operand) (t:TypeId)
  (ho:o.op=.call { callee:=.builtin .append,args:=#[s,x],argTypes:=#[t,t] })
  (e:TypeId) (i:TypeInfo) (z:Value) (size bytes:Nat) (ht:P.underlying t=some (.slice e)) (hi:P.info? e=some i) (hz:i.zero=some z)
  (hsize:i.size=size) (hby:i.bytes=bytes) (hzs:z.cells.size=size) (hsz:0 < size)
  (v:Value) (rows:List (List Value)) (hs:ac.eval s=v) (hown:Sl w e size v rows)
  (a:Addr) (m c:Nat) (news:List (List Value)) (hx:ac.eval x=.slice (some a) m c) (hm:news.length=m) (hm0:0 < m) (hl:∀ r∈news,r.length=size) (hnews:∀ j u,news.flatten[j]? = some u->w.cell? (a.add j)=some u) (h1:∀ u∈news.flatten,u.oneCell'=true)
  (h63:rows.length+m<=maxLen) (hbytes:(rows.length+m)*bytes<=140737488355328)
  (h:∀ a' c' w',Grew e size v w (.slice a' (rows.length+m) c') (rows ++ news) w'->wpList P ops Q rest (ac.put o.dst (.slice a' (rows.length+m) c')) w'):wpList P ops Q (o :: rest) ac w:=by
 obtain ⟨a',c',w',hr,hG⟩:=run_append_sl (P:=P) w t o.type e i z size bytes ht hi hz hsize hby hzs hsz v rows hown a m c news hm hm0 hl hnews h1 h63 hbytes
 refine wpList_plain hgd fun _ hK=>?_
 unfold Oper.wp execOp
 simp only [ho,resolve,invoke,builtin,Sem.run_bind,Sem.run_pure,Result.andThen_ok,List.map_toArray,List.map_cons,List.map_nil,hs,hx,hr]
 exact hK _ _ (h a' c' w' hG)
theorem step_append_sl {ops:Array Oper}{o:Oper}{ac:Act}{K:Act->World->Prop}{Q:Exit->Act->World->Prop}{E:Prop}(hgd:o.guard=none) (s x:Operand) (t:TypeId)
  (ho:o.op=.call { callee:=.builtin .append,args:=#[s,x],argTypes:=#[t,t] })
  (e:TypeId) (i:TypeInfo) (z:Value) (size bytes:Nat) (ht:P.underlying t=some (.slice e)) (hi:P.info? e=some i) (hz:i.zero=some z)
  (hsize:i.size=size) (hby:i.bytes=bytes) (hzs:z.cells.size=size) (hsz:0 < size)
  (v:Value) (rows:List (List Value)) (hs:ac.eval s=v) (hown:Sl w e size v rows)
  (a:Addr) (m c:Nat) (news:List (List Value)) (hx:ac.eval x=.slice (some a) m c) (hm:news.length=m) (hm0:0 < m) (hl:∀ r∈news,r.length=size) (hnews:∀ j u,news.flatten[j]? = some u->w.cell? (a.add j)=some u) (h1:∀ u∈news.flatten,u.oneCell'=true)
  (h63:rows.length+m<=maxLen) (hbytes:(rows.length+m)*bytes<=140737488355328)
  (h:∀ a' c' w',Grew e size v w (.slice a' (rows.length+m) c') (rows ++ news) w'->K (ac.put o.dst (.slice a' (rows.length+m) c')) w') :
  if Region.wanted o (yielded ops ac.tmps)=true then Oper.wp P o ac w K Q else E:=by
 obtain ⟨a',c',w',hr,hG⟩:=run_append_sl (P:=P) w t o.type e i z size bytes ht hi hz hsize hby hzs hsz v rows hown a m c news hm hm0 hl hnews h1 h63 hbytes
 have hw:Region.wanted o (yielded ops ac.tmps)=true:=by simp [Region.wanted,hgd]
 rw [if_pos hw]
 unfold Oper.wp
 simp [execOp,ho,resolve,invoke,builtin,hs,hx,hr,Result.andThen]
 exact h a' c' w' hG
end
theorem Marked.lt {w:World}{e:TypeId}{P:List Value}{v:Value}(h:Marked w e P v){k:Nat}(hk:v.ownBlock=some k):k < w.heap.size:=by
 obtain ⟨n,h⟩:=h
 exact (h.lt k hk).2
structure Entry (st el:TypeId) (M:List Value) (v:Value) (w0:World) (bx:Nat) (v1 v2 v3:Value) (mark:Int) (wc:World):Prop where
 at_:wc.heap[bx]? = some (.cells #[v,v1,v2,v3,.int .i64 mark] st (0,0))
 m0:Marked wc el M v
 m1:Marked wc el M v1
 m2:Marked wc el M v2
 m3:Marked wc el M v3
 fr:Fr (fun k=>v.ownBlock=some k) w0 wc
 new:w0.heap.size<=bx
 own:∀ k,(v1.ownBlock=some k\/v2.ownBlock=some k\/v3.ownBlock=some k)->w0.heap.size<=k\/v.ownBlock=some k
theorem Entry.cells {st el:TypeId}{M:List Value}{v:Value}{w0:World}{bx:Nat}{v1 v2 v3:Value}{mark:Int}{wc:World}(h:Entry st el M v w0 bx v1 v2 v3 mark wc) :
  wc.cell? ⟨bx,0,none⟩=some v/\wc.cell? ⟨bx,1,none⟩=some v1/\wc.cell? ⟨bx,2,none⟩=some v2/\wc.cell? ⟨bx,3,none⟩=some v3/\wc.cell? ⟨bx,4,none⟩=some (.int .i64 mark):=
 ⟨(cell_of_row wc bx 0 _ _ _ h.at_).trans rfl,(cell_of_row wc bx 1 _ _ _ h.at_).trans rfl,(cell_of_row wc bx 2 _ _ _ h.at_).trans rfl,(cell_of_row wc bx 3 _ _ _ h.at_).trans rfl,(cell_of_row wc bx 4 _ _ _ h.at_).trans rfl⟩
theorem entry_after {st el:TypeId}{M:List Value}{v:Value}{w0:World}{v1 v2 v3:Value}{mark:Int}{w1:World}(M0:Marked w1 el M v) (M1:Marked w1 el M v1) (M2:Marked w1 el M v2) (M3:Marked w1 el M v3)
  (F1:Fr (fun k=>v.ownBlock=some k) w0.drew w1) (N1:∀ k,(v1.ownBlock=some k\/v2.ownBlock=some k\/v3.ownBlock=some k)->w0.drew.heap.size<=k\/v.ownBlock=some k) :
  Entry st el M v w0 w1.heap.size v1 v2 v3 mark (w1.alloc (.cells #[v,v1,v2,v3,.int .i64 mark] st)):=by
 have K:=(Fr.refl (fun _=>False) w1).alloc (.cells #[v,v1,v2,v3,.int .i64 mark] st)
 exact ⟨heap_alloc_new _ _,M0.kept K (fun _ _ h=>h),M1.kept K (fun _ _ h=>h),M2.kept K (fun _ _ h=>h),M3.kept K (fun _ _ h=>h),Fr.alloc (a:=w0) ⟨F1.os,F1.tape,F1.output,F1.size,F1.block⟩ _,F1.size,N1⟩
theorem set5 {w:World}{g:Nat}{a0 a1 a2 a3 a4 b0 b1 b2 b3 b4:Value}{t:TypeId}(h:w.heap[g]? = some (.cells #[a0,a1,a2,a3,a4] t (0,0))) :
  (((((w.setCell ⟨g,0,none⟩ b0).setCell ⟨g,1,none⟩ b1).setCell ⟨g,2,none⟩ b2).setCell ⟨g,3,none⟩ b3).setCell ⟨g,4,none⟩ b4).heap[g]? = some (.cells #[b0,b1,b2,b3,b4] t (0,0)):=by
 have h0:=heap_setCell_same w g 0 _ t b0 h
 have h1:=heap_setCell_same _ g 1 _ t b1 h0
 have h2:=heap_setCell_same _ g 2 _ t b2 h1
 have h3:=heap_setCell_same _ g 3 _ t b3 h2
 have h4:=heap_setCell_same _ g 4 _ t b4 h3
 exact h4
theorem cells5 {w:World}{g:Nat}{a0 a1 a2 a3 a4:Value}{t:TypeId}(h:w.heap[g]? = some (.cells #[a0,a1,a2,a3,a4] t (0,0))) :
  (w.cell? ⟨g,0,none⟩=some a0/\w.cell? ⟨g,1,none⟩=some a1/\w.cell? ⟨g,2,none⟩=some a2/\w.cell? ⟨g,3,none⟩=some a3/\w.cell? ⟨g,4,none⟩=some a4)/\(∀ j,w.frozen? ⟨g,j,none⟩=false):=
 ⟨⟨(cell_of_row w g 0 _ _ _ h).trans rfl,(cell_of_row w g 1 _ _ _ h).trans rfl,(cell_of_row w g 2 _ _ _ h).trans rfl,(cell_of_row w g 3 _ _ _ h).trans rfl,(cell_of_row w g 4 _ _ _ h).trans rfl⟩,fun j=>frozen_of_row w g j _ _ h⟩
theorem entry_zero {v:Value}{w0 w1:World}{Z:Obj}(F1:Fr (fun k=>v.ownBlock=some k) (w0.alloc Z).drew w1) (hv:∀ k,v.ownBlock=some k->k < w0.heap.size):w1.heap[w0.heap.size]? = some Z:=by
 rw [F1.block w0.heap.size (by simp) (fun h=>by have:=hv _ h;omega)]
 exact heap_alloc_new w0 Z
theorem entry_before {st el:TypeId}{M:List Value}{v:Value}{w0:World}{v1 v2 v3:Value}{mark:Int}{w1:World}{a0 a1 a2 a3 a4:Value}(hv:∀ k,v.ownBlock=some k->k < w0.heap.size) (M0:Marked w1 el M v) (M1:Marked w1 el M v1) (M2:Marked w1 el M v2) (M3:Marked w1 el M v3)
  (F1:Fr (fun k=>v.ownBlock=some k) (w0.alloc (.cells #[a0,a1,a2,a3,a4] st)).drew w1) (N1:∀ k,(v1.ownBlock=some k\/v2.ownBlock=some k\/v3.ownBlock=some k)->(w0.alloc (.cells #[a0,a1,a2,a3,a4] st)).drew.heap.size<=k\/v.ownBlock=some k) :
  Entry st el M v w0 w0.heap.size v1 v2 v3 mark (((((w1.setCell ⟨w0.heap.size,0,none⟩ v).setCell ⟨w0.heap.size,1,none⟩ v1).setCell ⟨w0.heap.size,2,none⟩ v2).setCell ⟨w0.heap.size,3,none⟩ v3).setCell ⟨w0.heap.size,4,none⟩ (.int .i64 mark)):=by
 have K:Fr (fun k=>k=w0.heap.size) w1 (((((w1.setCell ⟨w0.heap.size,0,none⟩ v).setCell ⟨w0.heap.size,1,none⟩ v1).setCell ⟨w0.heap.size,2,none⟩ v2).setCell ⟨w0.heap.size,3,none⟩ v3).setCell ⟨w0.heap.size,4,none⟩ (.int .i64 mark)):=
  (((((Fr.refl (fun k=>k=w0.heap.size) w1).setCell (fun _=>rfl) _).setCell (fun _=>rfl) _).setCell (fun _=>rfl) _).setCell (fun _=>rfl) _).setCell (fun _=>rfl) _
 have N2:∀ k,(v1.ownBlock=some k\/v2.ownBlock=some k\/v3.ownBlock=some k)->¬ k=w0.heap.size:=fun k hk h=>by
  rcases N1 k hk with h1 | h1
  ·have:w0.heap.size+1<=k:=by simpa using h1
   omega
  ·have:=hv k h1;omega
 refine ⟨set5 (entry_zero F1 hv),M0.kept K (fun k hk h=>by have:=hv k hk;omega),M1.kept K (fun k hk=>N2 k (.inl hk)),M2.kept K (fun k hk=>N2 k (.inr (.inl hk))),M3.kept K (fun k hk=>N2 k (.inr (.inr hk))),?_,Nat.le_refl _,?_⟩
 ·have F0:Fr (fun k=>v.ownBlock=some k) w0 w1:=(((Fr.refl _ w0).alloc _).drew).trans F1
  exact (((((F0.setCell (fun h=>absurd h (Nat.lt_irrefl _)) _).setCell (fun h=>absurd h (Nat.lt_irrefl _)) _).setCell (fun h=>absurd h (Nat.lt_irrefl _)) _).setCell (fun h=>absurd h (Nat.lt_irrefl _)) _).setCell (fun h=>absurd h (Nat.lt_irrefl _)) _)
 ·intro k hk
  rcases N1 k hk with h1 | h1
  ·left
   have:w0.heap.size+1<=k:=by simpa using h1
   omega
  ·exact .inr h1
theorem book_end {st el:TypeId}{sz:Nat}{M:List Value}{b j:Nat}{cs:Array Value}{bt:TypeId}{nums v v1 v2 v3 u:Value}{rows rows':List (List Value)}{w w1 X w4:World}(hbl:b < w.heap.size)
  (HS:Sl w st sz nums rows) (_hv:∀ k,v.ownBlock=some k->k < w.heap.size)
  (HD1:nums.ownBlock≠some b) (HD2:v.ownBlock≠some b) (HD3:∀ k,v.ownBlock=some k->nums.ownBlock≠some k)
  (M0:Marked w1 el M v) (M1:Marked w1 el M v1) (M2:Marked w1 el M v2) (M3:Marked w1 el M v3) (F1:Fr (fun k=>v.ownBlock=some k) w w1)
  (N1:∀ k,(v1.ownBlock=some k\/v2.ownBlock=some k\/v3.ownBlock=some k)->w.heap.size<=k\/v.ownBlock=some k)
  (FX:Fr (fun _=>False) w1 X) (G4:Grew st sz nums X u rows' w4) (hb4:w4.heap[b]? = some (.cells cs bt (0,0))) :
   (w4.setCell ⟨b,j,none⟩ u).heap[b]? = some (.cells (cs.setIfInBounds j u) bt (0,0))/\Sl (w4.setCell ⟨b,j,none⟩ u) st sz u rows' /\
   Marked (w4.setCell ⟨b,j,none⟩ u) el M v/\Marked (w4.setCell ⟨b,j,none⟩ u) el M v1/\Marked (w4.setCell ⟨b,j,none⟩ u) el M v2/\Marked (w4.setCell ⟨b,j,none⟩ u) el M v3 /\
   Fr (fun k=>k=b\/v.ownBlock=some k\/nums.ownBlock=some k) w (w4.setCell ⟨b,j,none⟩ u)/\(∀ k,u.ownBlock=some k->w.heap.size<=k\/nums.ownBlock=some k) /\
   (∀ k,(v1.ownBlock=some k\/v2.ownBlock=some k\/v3.ownBlock=some k)->(w.heap.size<=k\/v.ownBlock=some k)/\u.ownBlock≠some k):=by
 have z1:=F1.size
 have zX:=FX.size
 have nlt:∀ k,nums.ownBlock=some k->k < w.heap.size:=fun k hk=>HS.lt hk
 have F4:Fr (fun k=>nums.ownBlock=some k) w1 w4:=G4.fr (FX.mono (fun _ _ h=>h.elim)) (fun k hk _=>hk)
 have F5:Fr (fun k=>nums.ownBlock=some k\/k=b) w1 (w4.setCell ⟨b,j,none⟩ u):=(F4.mono (fun _ _ h=>.inl h)).setCell (fun _=>.inr rfl) u
 have ne:∀ (x:Value),(∀ k,x.ownBlock=some k->w.heap.size<=k\/v.ownBlock=some k)->∀ k,x.ownBlock=some k->¬ (nums.ownBlock=some k\/k=b):=by
  intro x hx k hk h
  rcases hx k hk with h1 | h1
  ·rcases h with h | h
   ·have:=nlt k h;omega
   ·omega
  ·rcases h with h | h
   ·exact HD3 k h1 h
   ·exact HD2 (by rw [<- h];exact h1)
 have ub:u.ownBlock≠some b:=fun h=>by
  rcases G4.at_ b h with h | h
  ·omega
  ·exact HD1 h
 refine ⟨heap_setCell_same w4 b j cs bt u hb4,G4.sl.kept ((Fr.refl (fun k=>k=b) w4).setCell (p:=⟨b,j,none⟩) (fun _=>rfl) u) (fun k hk h=>ub (by rw [<- h];exact hk)),
  M0.kept F5 (ne v (fun k hk=>.inr hk)),M1.kept F5 (ne v1 (fun k hk=>N1 k (.inl hk))),M2.kept F5 (ne v2 (fun k hk=>N1 k (.inr (.inl hk)))),M3.kept F5 (ne v3 (fun k hk=>N1 k (.inr (.inr hk)))),?_,?_,?_⟩
 ·refine (F1.mono (fun _ _ h=>.inr (.inl h))).trans (F5.mono (fun k _ h=>?_))
  rcases h with h | h
  ·exact .inr (.inr h)
  ·exact .inl h
 ·intro k hk
  rcases G4.at_ k hk with h | h
  ·left;omega
  ·exact .inr h
 ·intro k hk
  refine ⟨N1 k hk,fun h=>?_⟩
  have hlt:k < w1.heap.size:=by
   rcases hk with hk | hk | hk
   ·exact M1.lt hk
   ·exact M2.lt hk
   ·exact M3.lt hk
  rcases G4.at_ k h with h | h
  ·omega
  ·rcases N1 k hk with h1 | h1
   ·have:=nlt k h;omega
   ·exact HD3 k h1 h
open Go.RowKit
theorem Tryz.infoN138:(Tryz.prog.info? 138).map (fun i=>(i.zero,i.size,i.bytes))=some (some (.agg #[.slice none 0 0,.slice none 0 0,.slice none 0 0,.slice none 0 0,.int .i64 0]),5,104):=by kernel_rfl
theorem marked_slice {w:World}{e:TypeId}{P:List Value}{v:Value}(h:Marked w e P v):∃ n a c,v=.slice a n c:=by
 obtain ⟨n,h⟩:=h
 obtain ⟨a,c,rfl⟩:=owns_slice h
 exact ⟨n,a,c,rfl⟩
theorem number_any (b:Nat) (ps nums pas lea v:Value) (rows:List (List Value)) (n:Nat) (xs:List Value) (w:World)
  (hb:w.heap[b]? = some (.cells #[ps,nums,pas,lea] 84 (0,0))) (hs:Sl w 138 5 nums rows) (hr:rows.length<=1000000000000)
  (hown:w.ownsRow 0 2 1 v n xs) (hn:n<=1000000) (d1:nums.ownBlock≠some b) (d2:v.ownBlock≠some b) (d3:∀ k,v.ownBlock=some k->nums.ownBlock≠some k) :
  Calls Tryz.prog 111 #[.pointer (some ⟨b,1,none⟩),v] w fun e w'=>e=.returned (.tuple #[])/\∃ nums' v1 v2 v3,
   w'.heap[b]? = some (.cells #[ps,nums',pas,lea] 84 (0,0))/\Sl w' 138 5 nums' (rows ++ [[v,v1,v2,v3,.int .i64 rows.length]]) /\
   Marked w' 2 [.int .i64 (-1000-rows.length)] v/\Marked w' 2 [.int .i64 (-1000-rows.length)] v1/\Marked w' 2 [.int .i64 (-1000-rows.length)] v2/\Marked w' 2 [.int .i64 (-1000-rows.length)] v3 /\
   Fr (fun k=>k=b\/v.ownBlock=some k\/nums.ownBlock=some k) w w'/\(∀ k,nums'.ownBlock=some k->w.heap.size<=k\/nums.ownBlock=some k) /\
   (∀ k,(v1.ownBlock=some k\/v2.ownBlock=some k\/v3.ownBlock=some k)->(w.heap.size<=k\/v.ownBlock=some k)/\nums'.ownBlock≠some k):=by
 obtain ⟨an,cn,rfl⟩:=hs.slice
 obtain ⟨av,cv,rfl⟩:=owns_slice hown
 have hbl:b < w.heap.size:=(Array.getElem?_eq_some_iff.1 hb).1
 have hc1:w.cell? ⟨b,1,none⟩=some (.slice an rows.length cn):=by rw [cell_of_row w b 1 _ _ _ hb];rfl
 have HB:=hid hb
 have HS:=hid hs
 have HD1:=hid d1
 have HD2:=hid d2
 have HD3:=hid d3
 clear d1 d2 d3 hs hb
 obtain ⟨i0,hi,hz0,hz1,hz2⟩:=info_parts Tryz.infoN138
 go_enter Tryz.func111,Tryz.ntmps111
 go_wp2_with fail
 refine (ownNumbers_any (.slice av n cv) n xs rows.length _ (by omega) (by omega) hown hn).mono ?_
 rintro e w1 ⟨v1,v2,v3,rfl,M0,M1,M2,M3,F1,N1⟩
 obtain ⟨n1,a1,c1,rfl⟩:=marked_slice M1
 obtain ⟨n2,a2,c2,rfl⟩:=marked_slice M2
 obtain ⟨n3,a3,c3,rfl⟩:=marked_slice M3
 have hb1:w1.heap[b]? = some (.cells #[ps,.slice an rows.length cn,pas,lea] 84 (0,0)):=by rw [F1.block b hbl HD2.out];exact HB.out
 have hc2:w1.cell? ⟨b,1,none⟩=some (.slice an rows.length cn):=by rw [cell_of_row w1 b 1 _ _ _ hb1];rfl
 have hs1:=hid (HS.out.kept F1 (fun k hk hv=>HD3.out k hv hk))
 have hbl1:b < w1.heap.size:=Nat.lt_of_lt_of_le hbl F1.size
 have HB1:=hid hb1
 have HM:=hid (And.intro M0 (And.intro M1 (And.intro M2 (And.intro M3 (And.intro F1 N1)))))
 clear M0 M1 M2 M3 F1 N1 hb1
 go_wp2_with fail
 go_region_law (refine step_append_sl _ rfl (.tmp 16) (.tmp 18) 78 rfl 138 i0 _ 5 104 Tryz.underlying78 hi hz0 hz1 hz2 rfl (by decide) (.slice an rows.length cn) rows (by simp [Act.eval]) (((hs1.out.alloc _).alloc _).drew) ⟨w1.heap.size+1,0,none⟩ 1 1 [[.slice av n cv,.slice a1 n1 c1,.slice a2 n2 c2,.slice a3 n3 c3,.int .i64 rows.length]] (by simp [Act.eval]) rfl (by decide) (by simp) (fun j u h=>cell_news2 w1 _ #[.slice av n cv,.slice a1 n1 c1,.slice a2 n2 c2,.slice a3 n3 c3,.int .i64 rows.length] 138 j u (by simpa using h)) (fun u hu=>by simp at hu;rcases hu with rfl | rfl | rfl | rfl | rfl <;> rfl) (by unfold maxLen;omega) (by omega) ?_;intro a4 c4 w4 G4;have hb4:Hid (w4.heap[b]? = some (.cells #[ps,.slice an rows.length cn,pas,lea] 84 (0,0))):=(G4.old (by simp;omega) HD1.out).trans ((((((Fr.refl (fun _=>False) w1).alloc _).alloc _).drew).block b hbl1 id).trans HB1.out);have hc4:w4.cell? ⟨b,1,none⟩=some (.slice an rows.length cn):=(cell_of_row w4 b 1 _ _ _ hb4.out).trans rfl;have hf4:w4.frozen? ⟨b,1,none⟩=false:=frozen_of_row _ _ _ _ _ hb4.out)
 all_goals
  go_wp2
  go_end0
  have HM':=HM.out
  exact ⟨rfl,_,_,_,_,book_end hbl HS.out (fun k hk=>(hown.lt k hk).2) HD1.out HD2.out HD3.out HM'.1 HM'.2.1 HM'.2.2.1 HM'.2.2.2.1 HM'.2.2.2.2.1 HM'.2.2.2.2.2 ((((Fr.refl (fun _=>False) w1).alloc _).alloc _).drew) G4 hb4.out⟩
open Go.RowKit
def Marks (w:World) (el:TypeId) (M:Int->List Value) (rows:List (List Value)):Prop:=
 ∀ k,k < rows.length->∃ v0 v1 v2 v3,rows[k]? = some [v0,v1,v2,v3,.int .i64 k]/\Marked w el (M k) v0/\Marked w el (M k) v1/\Marked w el (M k) v2/\Marked w el (M k) v3
theorem Sl.row {w:World}{e:TypeId}{size g n cap:Nat}{rows:List (List Value)}(h:Sl w e size (.slice (some ⟨g,0,none⟩) n cap) rows){i:Nat}{r:List Value}(hr:rows[i]? = some r):w.rangeAt g (i*size) r:=by
 obtain ⟨hi,e⟩:=List.getElem?_eq_some_iff.1 hr
 rw [<- e];exact h.range i hi
abbrev mk1 (m:Int):List Value:=[.int .i64 (-1000-m)]
theorem looks_any (b:Nat) (ps nums pas lea:Value) (nrow prow lrow:List (List Value)) (w:World)
  (hb:w.heap[b]? = some (.cells #[ps,nums,pas,lea] 84 (0,0))) (hsn:Sl w 138 5 nums nrow) (hs:Sl w 140 5 pas prow) (hsl:Sl w 142 5 lea lrow)
  (bn:nrow.length<=1000000000000) (bp:prow.length<=1000000000000) (bl:lrow.length<=1000000000000)
  (mn:Marks w 2 mk1 nrow) (mp:Marks w 55 (fun m=>[.int .i64 0,.int .i64 (-1000-m),.int .i64 0,.int .i64 0]) prow) (ml:Marks w 67 (fun m=>[.int .i64 0,.int .i64 (-1000-m),.int .i64 0,.int .i64 0]) lrow) :
  Calls Tryz.prog 38 #[.pointer (some ⟨b,1,none⟩)] w fun e w'=>e=.returned (.bool true)/\Below w.heap.size w w':=by
 obtain ⟨an,cn,rfl⟩:=hsn.slice
 obtain ⟨ap,cp,rfl⟩:=hs.slice
 obtain ⟨al,cl,rfl⟩:=hsl.slice
 have hbl:b < w.heap.size:=(Array.getElem?_eq_some_iff.1 hb).1
 have HB:=hid hb
 clear hb
 have H:=hid (And.intro hsn (And.intro hs (And.intro hsl (And.intro mn (And.intro mp ml)))))
 clear hsn hs hsl mn mp ml
 have cb:∀ (w':World),Below w.heap.size w w'->w'.cell? ⟨b,1,none⟩=some (.slice an nrow.length cn)/\w'.cell? ⟨b,2,none⟩=some (.slice ap prow.length cp)/\w'.cell? ⟨b,3,none⟩=some (.slice al lrow.length cl):=fun _ hw=>
  ⟨(hw.cell (p:=⟨b,1,none⟩) hbl).trans ((cell_of_row w b 1 _ _ _ HB.out).trans rfl),(hw.cell (p:=⟨b,2,none⟩) hbl).trans ((cell_of_row w b 2 _ _ _ HB.out).trans rfl),(hw.cell (p:=⟨b,3,none⟩) hbl).trans ((cell_of_row w b 3 _ _ _ HB.out).trans rfl)⟩
 have CB:=hid cb
 clear cb
 go_enter Tryz.func38,Tryz.ntmps38
 go_wp2
 go_loopw [3,4] (fun ok i w'=>∃ k:Nat,k<=nrow.length/\ok=.bool true/\i=.int .i64 k/\Below w.heap.size w w') (fun _ i _=>nrow.length-(intOf i).toNat)
 case atStart=>exact ⟨0,Nat.zero_le _,rfl,rfl,Below.refl _ _⟩
 case round=>
  obtain ⟨k,hk,rfl,rfl,hw⟩:=hrel
  obtain ⟨hc1,hc2,hc3⟩:=CB.out _ hw
  have HW:=hid hw
  by_cases hlt:k < nrow.length
  ·obtain ⟨v0,v1,v2,v3,er,m0,m1,m2,m3⟩:=(H.out.2.2.2.1) k hlt
   obtain ⟨g,rfl,_⟩:=H.out.1.is_some (by omega)
   have F:Fr (fun _=>False) w wr:=⟨hw.os,hw.tape,hw.output,hw.size,fun q hq _=>hw.block q hq⟩
   have hr:=hid ((H.out.1.kept F (fun _ _ h=>h)).row er)
   have MM:=hid (And.intro (m0.kept F (fun _ _ h=>h)) (And.intro (m1.kept F (fun _ _ h=>h)) (And.intro (m2.kept F (fun _ _ h=>h)) (m3.kept F (fun _ _ h=>h)))))
   clear m0 m1 m2 m3 F er hw
   go_wp2_with (first
    | (with_reducible (show wpList _ _ _ (⟨_,.load 138 _,_,_,_,none⟩ :: _) _ _);go_must (refine wpList_load_mid rfl 138 _ rfl g (k*5) rfl _ _ hr.out Tryz.underlying138 rfl (by kernel_rfl) ?_))
    | (go_at_call 71;refine (stillNumbers_any v0 v1 v2 v3 k _ (by omega) (by omega) MM.out.1 MM.out.2.1 MM.out.2.2.1 MM.out.2.2.2).mono ?_;rintro e w2 ⟨rfl,hw2⟩;have HW2:=hid (HW.out.trans (hw2.mono HW.out.size));clear hw2))
   exact ⟨⟨k+1,by omega,rfl,by go_num,HW2.out⟩,by simp [intOf];omega⟩
  ·clear hw
   go_wp2
   go_loopw [3,6] (fun ok i w'=>∃ k:Nat,k<=prow.length/\ok=.bool true/\i=.int .i64 k/\Below w.heap.size w w') (fun _ i _=>prow.length-(intOf i).toNat)
   case atStart=>exact ⟨0,Nat.zero_le _,rfl,rfl,HW.out⟩
   clear hk hlt hc1 hc2 hc3 HW
   case round=>
    obtain ⟨k,hk,rfl,rfl,hw⟩:=hrel
    obtain ⟨hc1,hc2,hc3⟩:=CB.out _ hw
    have HW:=hid hw
    by_cases hlt:k < prow.length
    ·obtain ⟨v0,v1,v2,v3,er,m0,m1,m2,m3⟩:=(H.out.2.2.2.2.1) k hlt
     obtain ⟨g,rfl,_⟩:=H.out.2.1.is_some (by omega)
     have F:Fr (fun _=>False) w wr:=⟨hw.os,hw.tape,hw.output,hw.size,fun q hq _=>hw.block q hq⟩
     have hr:=hid ((H.out.2.1.kept F (fun _ _ h=>h)).row er)
     have MM:=hid (And.intro (m0.kept F (fun _ _ h=>h)) (And.intro (m1.kept F (fun _ _ h=>h)) (And.intro (m2.kept F (fun _ _ h=>h)) (m3.kept F (fun _ _ h=>h)))))
     clear m0 m1 m2 m3 F er hw
     go_wp2_with (first
      | (with_reducible (show wpList _ _ _ (⟨_,.load 140 _,_,_,_,none⟩ :: _) _ _);go_must (refine wpList_load_mid rfl 140 _ rfl g (k*5) rfl _ _ hr.out Tryz.underlying140 rfl (by kernel_rfl) ?_))
      | (go_at_call 72;refine (stillPasses_any v0 v1 v2 v3 k _ (by omega) (by omega) MM.out.1 MM.out.2.1 MM.out.2.2.1 MM.out.2.2.2).mono ?_;rintro e w2 ⟨rfl,hw2⟩;have HW2:=hid (HW.out.trans (hw2.mono HW.out.size));clear hw2))
     exact ⟨⟨k+1,by omega,rfl,by go_num,HW2.out⟩,by simp [intOf];omega⟩
    ·clear hw
     go_wp2
     go_loopw [3,8] (fun ok i w'=>∃ k:Nat,k<=lrow.length/\ok=.bool true/\i=.int .i64 k/\Below w.heap.size w w') (fun _ i _=>lrow.length-(intOf i).toNat)
     case atStart=>exact ⟨0,Nat.zero_le _,rfl,rfl,HW.out⟩
     clear hk hlt hc1 hc2 hc3 HW
     case round=>
      obtain ⟨k,hk,rfl,rfl,hw⟩:=hrel
      obtain ⟨hc1,hc2,hc3⟩:=CB.out _ hw
      have HW:=hid hw
      by_cases hlt:k < lrow.length
      ·obtain ⟨v0,v1,v2,v3,er,m0,m1,m2,m3⟩:=(H.out.2.2.2.2.2) k hlt
       obtain ⟨g,rfl,_⟩:=H.out.2.2.1.is_some (by omega)
       have F:Fr (fun _=>False) w wr:=⟨hw.os,hw.tape,hw.output,hw.size,fun q hq _=>hw.block q hq⟩
       have hr:=hid ((H.out.2.2.1.kept F (fun _ _ h=>h)).row er)
       have MM:=hid (And.intro (m0.kept F (fun _ _ h=>h)) (And.intro (m1.kept F (fun _ _ h=>h)) (And.intro (m2.kept F (fun _ _ h=>h)) (m3.kept F (fun _ _ h=>h)))))
       clear m0 m1 m2 m3 F er hw
       go_wp2_with (first
        | (with_reducible (show wpList _ _ _ (⟨_,.load 142 _,_,_,_,none⟩ :: _) _ _);go_must (refine wpList_load_mid rfl 142 _ rfl g (k*5) rfl _ _ hr.out Tryz.underlying142 rfl (by kernel_rfl) ?_))
        | (go_at_call 73;refine (stillLeaves_any v0 v1 v2 v3 k _ (by omega) (by omega) MM.out.1 MM.out.2.1 MM.out.2.2.1 MM.out.2.2.2).mono ?_;rintro e w2 ⟨rfl,hw2⟩;have HW2:=hid (HW.out.trans (hw2.mono HW.out.size));clear hw2))
       exact ⟨⟨k+1,by omega,rfl,by go_num,HW2.out⟩,by simp [intOf];omega⟩
      ·clear hw
       go_wp2
       go_ret
       exact ⟨rfl,HW.out⟩
open Go.RowKit
structure Inl (w:World) (size:Nat) (v:Value) (rows:List (List Value)):Prop where
 len:∀ r∈rows,r.length=size
 one:∀ r∈rows,∀ u∈r,u.oneCell'=true
 form:∃ a c,v=.slice a rows.length c/\rows.length<=maxLen/\(rows=[]\/∃ b off,a=some ⟨b,off,none⟩/\w.rangeAt b off rows.flatten)
theorem Inl.slice {w:World}{size:Nat}{v:Value}{rows:List (List Value)}(h:Inl w size v rows):∃ a c,v=.slice a rows.length c:=by
 obtain ⟨a,c,h,_⟩:=h.form;exact ⟨a,c,h⟩
theorem rangeAt_cells {w w':World}{b off:Nat}{cs:List Value}(h:w.rangeAt b off cs) (he:w'.heap[b]? = w.heap[b]?):w'.rangeAt b off cs:=fun j v hv=>by
 rw [World.cell?_of_block (w:=w) (a:=⟨b,off+j,none⟩) he];exact h j v hv
def inBlock:Value->Option Nat
 | .slice (some a) (_+1) _=>some a.block
 | _=>none
theorem Inl.kept {w w':World}{size:Nat}{v:Value}{rows:List (List Value)}(h:Inl w size v rows) (hs:0 < size){S:Nat->Prop}(hf:Fr S w w') (hn:∀ k,inBlock v=some k->¬ S k):Inl w' size v rows:=by
 obtain ⟨a,c,rfl,hm,hr⟩:=h.form
 refine ⟨h.len,h.one,a,c,rfl,hm,?_⟩
 rcases hr with rfl | ⟨b,off,rfl,hr⟩
 ·exact .inl rfl
 ·cases rows with
  | nil=>exact .inl rfl
  | cons r rs=>
   refine .inr ⟨b,off,rfl,?_⟩
   have hlr:=h.len r (by simp)
   have hlt:b < w.heap.size:=by
    cases r with
    | nil=>simp at hlr;omega
    | cons u t=>exact block_lt_of_cell (a:=⟨b,off+0,none⟩) (hr 0 u (by simp))
   exact rangeAt_cells hr (hf.block b hlt (hn b rfl))
theorem Inl.below {w w':World}{size:Nat}{v:Value}{rows:List (List Value)}(h:Inl w size v rows) (hs:0 < size) (hb:Below w.heap.size w w'):Inl w' size v rows:=
 h.kept hs (Fr.of_below hb (fun _=>False)) (fun _ _ h=>h)
theorem Inl.alloc {w:World}{size:Nat}{v:Value}{rows:List (List Value)}(h:Inl w size v rows) (hs:0 < size) (o:Obj):Inl (w.alloc o) size v rows:=
 h.kept hs ((Fr.refl (fun _=>False) w).alloc o) (fun _ _ h=>h)
theorem Inl.drew {w:World}{size:Nat}{v:Value}{rows:List (List Value)}(h:Inl w size v rows):Inl w.drew size v rows:=⟨h.len,h.one,h.form⟩
theorem Inl.row {w:World}{size:Nat}{a:Option Addr}{n c:Nat}{rows:List (List Value)}(h:Inl w size (.slice a n c) rows){k:Nat}{r:List Value}(hk:rows[k]? = some r):∃ b off,a=some ⟨b,off,none⟩/\w.rangeAt b (off+k*size) r:=by
 obtain ⟨a',c',e,hm,hr⟩:=h.form
 simp only [Value.slice.injEq] at e
 obtain ⟨rfl,rfl,rfl⟩:=e
 obtain ⟨hi,e⟩:=List.getElem?_eq_some_iff.1 hk
 rcases hr with rfl | ⟨b,off,rfl,hr⟩
 ·simp at hi
 ·refine ⟨b,off,rfl,fun j v hv=>?_⟩
  have hl:=h.len r (by rw [<- e];exact List.getElem_mem hi)
  have hj:j < size:=by have:=(List.getElem?_eq_some_iff.1 hv).1;omega
  have:=hr (k*size+j) v (by rw [flatten_get rows k j h.len hi hj,e];exact hv)
  rwa [<- Nat.add_assoc] at this
theorem Sl.inl {w:World}{e:TypeId}{size g n cap:Nat}{rows:List (List Value)}(h:Sl w e size (.slice (some ⟨g,0,none⟩) n cap) rows) (h1:∀ r∈rows,∀ u∈r,u.oneCell'=true) (k c:Nat) (hk:k<=rows.length) :
  Inl w size (.slice (some ⟨g,0,none⟩) k c) (rows.take k):=by
 have hn:=h.n_eq
 subst hn
 have hlen:(rows.take k).length=k:=by simp;omega
 refine ⟨fun r hr=>h.len r (List.mem_of_mem_take hr),fun r hr=>h1 r (List.mem_of_mem_take hr),some ⟨g,0,none⟩,c,by rw [hlen],?_,?_⟩
 ·rcases h.form with ⟨hx,_⟩ | ⟨g',cap',hx,h2,h3,_⟩
  ·simp at hx
  ·omega
 ·refine .inr ⟨g,0,rfl,fun j v hv=>?_⟩
  have hj:j < (rows.take k).flatten.length:=(List.getElem?_eq_some_iff.1 hv).1
  have hfl:=flatten_len (rows.take k) (fun r hr=>h.len r (List.mem_of_mem_take hr))
  rw [hlen] at hfl
  have hle:k*size<=rows.length*size:=Nat.mul_le_mul_right _ hk
  rw [Nat.zero_add,h.own.cellAt j (by omega)]
  rw [<- hv]
  have e:rows.flatten=(rows.take k).flatten ++ (rows.drop k).flatten:=by rw [<- List.flatten_append,List.take_append_drop]
  rw [e,List.getElem?_append_left hj]
theorem flatten_setrow {s:Nat}:∀ (rows:List (List Value)) (i:Nat) (r:List Value),(∀ x∈rows,x.length=s)->r.length=s->i < rows.length->setAt rows.flatten (i*s) r=(rows.set i r).flatten
 | [],i,_,_,_,hi=>by simp at hi
 | x :: rs,0,r,h,hr,_=>by
  have e:x.length=s:=h x (by simp)
  rw [setAt_eq _ _ _ (by simp [e,hr])]
  simp [hr,<- e]
 | x :: rs,i+1,r,h,hr,hi=>by
  have e:x.length=s:=h x (by simp)
  have hi':i < rs.length:=by simpa using hi
  have hrs:∀ y∈rs,y.length=s:=fun y hy=>h y (by simp [hy])
  have hfl:=flatten_len rs hrs
  have hle:i*s+s<=rs.length*s:=by have:=Nat.mul_le_mul_right s (show i+1<=rs.length from hi');rwa [Nat.succ_mul] at this
  have ih:=flatten_setrow rs i r hrs hr hi'
  rw [setAt_eq _ _ _ (by rw [hr];omega)] at ih
  rw [setAt_eq _ _ _ (by rw [List.flatten_cons,List.length_append,hr,Nat.succ_mul];omega)]
  rw [List.set_cons_succ,List.flatten_cons,List.flatten_cons,<- ih]
  rw [show (i+1)*s=x.length+i*s by rw [Nat.succ_mul];omega,List.take_append,List.drop_append]
  rw [List.take_of_length_le (by omega),List.drop_of_length_le (show x.length<=x.length+i*s+r.length by omega)]
  rw [show x.length+i*s-x.length=i*s by omega,show x.length+i*s+r.length-x.length=i*s+r.length by omega]
  simp
theorem Sl.setRow {w:World}{e:TypeId}{size g n cap:Nat}{rows:List (List Value)}(h:Sl w e size (.slice (some ⟨g,0,none⟩) n cap) rows) (i:Nat) (r:List Value) (hi:i < rows.length) (hr:r.length=size) :
  Sl (w.setCells g (i*size) r) e size (.slice (some ⟨g,0,none⟩) n cap) (rows.set i r)/\w.grownBy (w.setCells g (i*size) r) (some g):=by
 have hn:=h.n_eq
 subst hn
 have h1:=setCells_owns r (i*size) w _ h.own
 rw [flatten_setrow rows i r h.len hr hi] at h1
 refine ⟨⟨by simpa using h1.1,?_⟩,h1.2⟩
 intro x hx
 rcases List.mem_or_eq_of_mem_set hx with hx | rfl
 ·exact h.len x hx
 ·exact hr
theorem Sl.there {w:World}{e:TypeId}{size g n cap:Nat}{rows:List (List Value)}(h:Sl w e size (.slice (some ⟨g,0,none⟩) n cap) rows) (i:Nat) (hi:i < rows.length):w.there g (i*size) size:=by
 have hn:=h.n_eq
 subst hn
 exact owns_there h.own _ _ (by have:=Nat.mul_le_mul_right size (show i+1<=rows.length from hi);rw [Nat.succ_mul] at this;omega)
section
variable {P:Program}(w:World)
theorem run_copy_sl (dT sT ty e:TypeId) (i:TypeInfo) (size:Nat) (hu:P.underlying dT=some (.slice e)) (hi:P.info? e=some i) (hsize:i.size=size)
  (g n cap:Nat) (drows:List (List Value)) (hd:Sl w e size (.slice (some ⟨g,0,none⟩) n cap) drows) (a:Option Addr) (m c:Nat) (rows:List (List Value)) (hs:Inl w size (.slice a m c) rows) (hle:rows.length<=drows.length) :
  ∃ w',(Builtin.copy_ #[dT,sT] ty #[.slice (some ⟨g,0,none⟩) n cap,.slice a m c]).run P w=.ok (goInt rows.length) w'/\Sl w' e size (.slice (some ⟨g,0,none⟩) n cap) (rows ++ drows.drop rows.length)/\w.grownBy w' (some g):=by
 subst hsize
 have hn:=hd.n_eq
 subst hn
 obtain ⟨a',c',ev,hm,hr⟩:=hs.form
 simp only [Value.slice.injEq] at ev
 obtain ⟨rfl,rfl,rfl⟩:=ev
 have hmin:Nat.min rows.length drows.length=rows.length:=Nat.min_eq_left hle
 rcases hr with rfl | ⟨b,off,rfl,hr⟩
 ·refine ⟨w,?_,by simpa using hd,⟨rfl,rfl,rfl,Nat.le_refl _,fun _ _ _=>rfl⟩⟩
  cases a <;> simp [Builtin.copy_,run_underlying hu,Builtin.lenOf,Builtin.firstCells,sizeOf,typeInfo,hi,storeCells,loadCells,loadCellsFrom]
 ·have hfl:=flatten_len rows hs.len
  have hl:=run_loadCells_list (P:=P) w ⟨b,off,none⟩ rows.flatten (fun j v hv=>by rw [Addr.add_mid];exact hr j v hv)
  rcases hd.own.2 with ⟨hx,_⟩ | ⟨g',cap',cur,hx,_,hg,h1,h2,h3,h4⟩
  ·simp at hx
  ·simp only [Value.slice.injEq,Option.some.injEq,Addr.mk.injEq,and_true,true_and] at hx
   obtain ⟨rfl,rfl⟩:=hx
   have h1c:∀ v∈rows.flatten,v.oneCell'=true:=fun v hv=>by
    obtain ⟨r,hr,hv⟩:=List.mem_flatten.1 hv
    exact hs.one r hr v hv
   have hdl:=flatten_len drows hd.len
   have hmul:rows.length*i.size<=drows.length*i.size:=Nat.mul_le_mul_right _ hle
   have hmul2:drows.length*i.size<=cap*i.size:=Nat.mul_le_mul_right _ h1
   have hst:=run_storeCells_at P g 0 e rows.flatten 0 cur w hg (by simp only [Nat.zero_add];omega) h1c
   simp only [Nat.zero_add,List.take_zero,List.nil_append] at hst
   refine ⟨w.setRow g (rows.flatten ++ List.drop rows.flatten.length cur.toList).toArray,?_,⟨⟨?_,.inr ⟨g,cap,_,?_,Nat.zero_le _,setRow_heap w g cur _ e _ hg,?_,h2,?_,?_⟩⟩,?_⟩,grown_setRow w g _⟩
   ·clear h4
    generalize rows.flatten=fs at *
    rw [hfl] at hl
    simp [Builtin.copy_,run_underlying hu,Builtin.lenOf,Builtin.firstCells,sizeOf,typeInfo,hi,hmin,hl,hst]
   ·rw [flatten_len _ (fun r hr=>by
     rcases List.mem_append.1 hr with h | h
     ·exact hs.len r h
     ·exact hd.len r (List.mem_of_mem_drop h))]
   ·congr 1;simp;omega
   ·simp;omega
   ·generalize rows.flatten=fs at *
    simp;rw [h3];omega
   ·have e1:(rows ++ drows.drop rows.length).length=drows.length:=by simp;omega
    rw [e1,List.flatten_append]
    have e2:(drows.drop rows.length).flatten=drows.flatten.drop (rows.length*i.size):=by
     have e3:drows.flatten=(drows.take rows.length).flatten ++ (drows.drop rows.length).flatten:=by rw [<- List.flatten_append,List.take_append_drop]
     rw [e3,List.drop_left' (by rw [flatten_len _ (fun r hr=>hd.len r (List.mem_of_mem_take hr))];congr 1;simp;omega)]
    rw [e2,<- h4]
    show List.take _ (rows.flatten ++ List.drop rows.flatten.length cur.toList)=_
    rw [List.take_append,hfl]
    rw [List.take_of_length_le (by rw [hfl];exact hmul)]
    congr 1
    rw [List.drop_take]
   ·intro r hr
    rcases List.mem_append.1 hr with h | h
    ·exact hs.len r h
    ·exact hd.len r (List.mem_of_mem_drop h)
theorem wpList_copy_sl {ops:Array Oper}{rest:List Oper}{o:Oper}{ac:Act}{Q:Exit->Act->World->Prop}(hgd:o.guard=none) (d s:Operand) (dT sT:TypeId)
  (ho:o.op=.call { callee:=.builtin .copy,args:=#[d,s],argTypes:=#[dT,sT] }) (e:TypeId) (i:TypeInfo) (size:Nat) (hu:P.underlying dT=some (.slice e)) (hi:P.info? e=some i) (hsize:i.size=size)
  (g n cap:Nat) (drows:List (List Value)) (hdv:ac.eval d=.slice (some ⟨g,0,none⟩) n cap) (hd:Sl w e size (.slice (some ⟨g,0,none⟩) n cap) drows) (a:Option Addr) (m c:Nat) (rows:List (List Value)) (hsv:ac.eval s=.slice a m c) (hs:Inl w size (.slice a m c) rows) (hle:rows.length<=drows.length)
  (h:∀ w',Hid (Sl w' e size (.slice (some ⟨g,0,none⟩) n cap) (rows ++ drows.drop rows.length)/\w.grownBy w' (some g))->wpList P ops Q rest (ac.put o.dst (goInt rows.length)) w'):wpList P ops Q (o :: rest) ac w:=by
 obtain ⟨w',hr,h1,h2⟩:=run_copy_sl (P:=P) w dT sT o.type e i size hu hi hsize g n cap drows hd a m c rows hs hle
 refine wpList_plain hgd fun K hK=>?_
 unfold Oper.wp
 simp [execOp,ho,resolve,invoke,builtin,hdv,hsv,hr,Result.andThen]
 exact hK _ _ (h w' ⟨h1,h2⟩)
end
section
variable {P:Program}(w:World)
theorem run_append_inl (t ty e:TypeId) (i:TypeInfo) (z:Value) (size bytes:Nat) (ht:P.underlying t=some (.slice e)) (hi:P.info? e=some i) (hz:i.zero=some z)
  (hsize:i.size=size) (hby:i.bytes=bytes) (hzs:z.cells.size=size) (hsz:0 < size) (a:Option Addr) (m c:Nat) (rows:List (List Value)) (hs:Inl w size (.slice a m c) rows) (hbytes:rows.length*bytes<=140737488355328) :
  ∃ a' c' w',(Builtin.append_ #[t,t] ty #[.slice none 0 0,.slice a m c]).run P w=.ok (.slice a' rows.length c') w'/\Grew e size (.slice none 0 0) w (.slice a' rows.length c') rows w':=by
 obtain ⟨a0,c0,ev,hm,hr⟩:=hs.form
 simp only [Value.slice.injEq] at ev
 obtain ⟨rfl,rfl,rfl⟩:=ev
 rcases hr with rfl | ⟨b,off,rfl,hr⟩
 ·refine ⟨none,0,w,?_,Sl.nil w e size,⟨rfl,rfl,rfl,Nat.le_refl _,fun _ _ _=>rfl⟩,fun k hk=>by simp [Value.ownBlock] at hk⟩
  cases a <;> simp [Builtin.append_,run_underlying ht,sizeOf,typeInfo,hi,Builtin.lenOf,Builtin.firstCells,loadCells,loadCellsFrom]
 ·cases hrows:rows with
  | nil=>
   subst hrows
   refine ⟨none,0,w,?_,Sl.nil w e size,⟨rfl,rfl,rfl,Nat.le_refl _,fun _ _ _=>rfl⟩,fun k hk=>by simp [Value.ownBlock] at hk⟩
   simp [Builtin.append_,run_underlying ht,sizeOf,typeInfo,hi,Builtin.lenOf,Builtin.firstCells,loadCells,loadCellsFrom]
  | cons r rs=>
   have hpos:0 < rows.length:=by rw [hrows];simp
   obtain ⟨a',c',w',h1,h2⟩:=run_append_sl (P:=P) w t ty e i z size bytes ht hi hz hsize hby hzs hsz (.slice none 0 0) [] (Sl.nil w e size) ⟨b,off,none⟩ rows.length c rows rfl hpos hs.len
    (fun j u hu=>by rw [Addr.add_mid];exact hr j u hu) (fun u hu=>by obtain ⟨x,hx,hux⟩:=List.mem_flatten.1 hu;exact hs.one x hx u hux) (by simpa using hm) (by simpa using hbytes)
   rw [<- hrows]
   simp only [List.length_nil,Nat.zero_add,List.nil_append] at h1 h2
   exact ⟨a',c',w',h1,h2⟩
theorem step_append_inl {ops:Array Oper}{o:Oper}{ac:Act}{K:Act->World->Prop}{Q:Exit->Act->World->Prop}{E:Prop}(hgd:o.guard=none) (s x:Operand) (t:TypeId)
  (ho:o.op=.call { callee:=.builtin .append,args:=#[s,x],argTypes:=#[t,t] })
  (e:TypeId) (i:TypeInfo) (z:Value) (size bytes:Nat) (ht:P.underlying t=some (.slice e)) (hi:P.info? e=some i) (hz:i.zero=some z)
  (hsize:i.size=size) (hby:i.bytes=bytes) (hzs:z.cells.size=size) (hsz:0 < size) (hsv:ac.eval s=.slice none 0 0) (a:Option Addr) (m c:Nat) (rows:List (List Value)) (hxv:ac.eval x=.slice a m c) (hs:Inl w size (.slice a m c) rows) (hbytes:rows.length*bytes<=140737488355328)
  (h:∀ a' c' w',Grew e size (.slice none 0 0) w (.slice a' rows.length c') rows w'->K (ac.put o.dst (.slice a' rows.length c')) w') :
  if Region.wanted o (yielded ops ac.tmps)=true then Oper.wp P o ac w K Q else E:=by
 obtain ⟨a',c',w',hr,hG⟩:=run_append_inl (P:=P) w t o.type e i z size bytes ht hi hz hsize hby hzs hsz a m c rows hs hbytes
 have hw:Region.wanted o (yielded ops ac.tmps)=true:=by simp [Region.wanted,hgd]
 rw [if_pos hw]
 unfold Oper.wp
 simp [execOp,ho,resolve,invoke,builtin,hsv,hxv,hr,Result.andThen]
 exact h a' c' w' hG
end
theorem wpList_store_new {P:Program}{ops:Array Oper}{rest:List Oper}{o:Oper}{a:Act}{Q:Exit->Act->World->Prop}(hgd:o.guard=none) (ty:TypeId) (x y:Operand) (ho:o.op=.store ty x y)
  (w0:World) (old cells:Array Value) (t:TypeId) (hx:a.eval x=.pointer (some ⟨w0.heap.size,0,none⟩)) (hy:a.eval y=.agg cells) (hi:(P.info? ty).map (·.size)=some cells.size) (hold:old.size=cells.size) (h1:cells.all (·.oneCell')=true)
  (h:wpList P ops Q rest (a.put o.dst undef) (w0.alloc (.cells cells t))):wpList P ops Q (o :: rest) a (w0.alloc (.cells old t)):=by
 refine wpList_store_row hgd ty x y ho w0.heap.size cells hx hy t old (heap_alloc_new w0 _) hi hold h1 ?_
 rw [World.setRow_alloc_new]
 exact h
theorem results_cell2 {P:Program}{fn:Func}{p q:Tmp}{ty ty2:TypeId}(h:fn.results=#[.cell p ty,.cell q ty2]) (tmps:Array Value) (w:World) (g g2:Nat) (t t2:TypeId) (cs cs2:Array Value) (fr fr2:Nat×Nat) (d d2:TypeDesc)
  (hp:tmps.getD p undef=.pointer (some ⟨g,0,none⟩)) (hg:w.heap[g]? = some (.cells cs t fr)) (hu:P.underlying ty=some d) (hd:(match d with | .struct _ | .array _ _=>true | _=>false)=true) (hi:(P.info? ty).map (·.size)=some cs.size)
  (hp2:tmps.getD q undef=.pointer (some ⟨g2,0,none⟩)) (hg2:w.heap[g2]? = some (.cells cs2 t2 fr2)) (hu2:P.underlying ty2=some d2) (hd2:(match d2 with | .struct _ | .array _ _=>true | _=>false)=true) (hi2:(P.info? ty2).map (·.size)=some cs2.size) :
  (results fn tmps).run P w=.ok (.tuple #[.agg cs,.agg cs2]) w:=by
 have hp':tmps[p]?.getD undef=.pointer (some ⟨g,0,none⟩):=by simpa using hp
 have hq':tmps[q]?.getD undef=.pointer (some ⟨g2,0,none⟩):=by simpa using hp2
 simp [results,h,hp',hq',asAddr,run_loadVar_row w g t ty cs fr d hg hu hd hi,run_loadVar_row w g2 t2 ty2 cs2 fr2 d2 hg2 hu2 hd2 hi2]
theorem set4 {w:World}{g:Nat}{a0 a1 a2 a3 b0 b1 b2 b3:Value}{t:TypeId}(h:w.heap[g]? = some (.cells #[a0,a1,a2,a3] t (0,0))) :
  ((((w.setCell ⟨g,0,none⟩ b0).setCell ⟨g,1,none⟩ b1).setCell ⟨g,2,none⟩ b2).setCell ⟨g,3,none⟩ b3).heap[g]? = some (.cells #[b0,b1,b2,b3] t (0,0)):=
 heap_setCell_same _ g 3 _ t b3 (heap_setCell_same _ g 2 _ t b2 (heap_setCell_same _ g 1 _ t b1 (heap_setCell_same w g 0 _ t b0 h)))
theorem set3 {w:World}{g:Nat}{a0 a1 a2 b0 b1 b2:Value}{t:TypeId}(h:w.heap[g]? = some (.cells #[a0,a1,a2] t (0,0))) :
  (((w.setCell ⟨g,0,none⟩ b0).setCell ⟨g,1,none⟩ b1).setCell ⟨g,2,none⟩ b2).heap[g]? = some (.cells #[b0,b1,b2] t (0,0)):=
 heap_setCell_same _ g 2 _ t b2 (heap_setCell_same _ g 1 _ t b1 (heap_setCell_same w g 0 _ t b0 h))
theorem lent_end {w:World}{r1 r2:Nat}{a0 a1 a2 a3 b0 b1 b2 b3 c0 c1 c2 e0 e1 e2:Value}{t t2:TypeId}{O:Obj}(h1:w.heap[r1]? = some (.cells #[a0,a1,a2,a3] t (0,0))) (h2:w.heap[r2]? = some (.cells #[c0,c1,c2] t2 (0,0))) (hne:r1≠r2) :
  (((((((((w.setCell ⟨r1,0,none⟩ b0).setCell ⟨r1,1,none⟩ b1).setCell ⟨r1,2,none⟩ b2).setCell ⟨r1,3,none⟩ b3).setCell ⟨r2,0,none⟩ e0).setCell ⟨r2,1,none⟩ e1).setCell ⟨r2,2,none⟩ e2).alloc O).drew).heap[r1]? = some (.cells #[b0,b1,b2,b3] t (0,0)) /\
  (((((((((w.setCell ⟨r1,0,none⟩ b0).setCell ⟨r1,1,none⟩ b1).setCell ⟨r1,2,none⟩ b2).setCell ⟨r1,3,none⟩ b3).setCell ⟨r2,0,none⟩ e0).setCell ⟨r2,1,none⟩ e1).setCell ⟨r2,2,none⟩ e2).alloc O).drew).heap[r2]? = some (.cells #[e0,e1,e2] t2 (0,0)) /\
  Fr (fun q=>q=r1\/q=r2) w (((((((((w.setCell ⟨r1,0,none⟩ b0).setCell ⟨r1,1,none⟩ b1).setCell ⟨r1,2,none⟩ b2).setCell ⟨r1,3,none⟩ b3).setCell ⟨r2,0,none⟩ e0).setCell ⟨r2,1,none⟩ e1).setCell ⟨r2,2,none⟩ e2).alloc O).drew):=by
 have F1:Fr (fun q=>q=r1) w ((((w.setCell ⟨r1,0,none⟩ b0).setCell ⟨r1,1,none⟩ b1).setCell ⟨r1,2,none⟩ b2).setCell ⟨r1,3,none⟩ b3):=
  ((((Fr.refl (fun q=>q=r1) w).setCell (fun _=>rfl) _).setCell (fun _=>rfl) _).setCell (fun _=>rfl) _).setCell (fun _=>rfl) _
 generalize hu:((((w.setCell ⟨r1,0,none⟩ b0).setCell ⟨r1,1,none⟩ b1).setCell ⟨r1,2,none⟩ b2).setCell ⟨r1,3,none⟩ b3)=u at *
 have g1:u.heap[r1]? = some (.cells #[b0,b1,b2,b3] t (0,0)):=by rw [<- hu];exact set4 h1
 have l2:=(Array.getElem?_eq_some_iff.1 h2).1
 have g2:u.heap[r2]? = some (.cells #[c0,c1,c2] t2 (0,0)):=(F1.block r2 l2 (fun h=>hne h.symm)).trans h2
 have F2:Fr (fun q=>q=r2) u (((u.setCell ⟨r2,0,none⟩ e0).setCell ⟨r2,1,none⟩ e1).setCell ⟨r2,2,none⟩ e2):=
  (((Fr.refl (fun q=>q=r2) u).setCell (fun _=>rfl) _).setCell (fun _=>rfl) _).setCell (fun _=>rfl) _
 generalize hv:(((u.setCell ⟨r2,0,none⟩ e0).setCell ⟨r2,1,none⟩ e1).setCell ⟨r2,2,none⟩ e2)=v at *
 have k2:v.heap[r2]? = some (.cells #[e0,e1,e2] t2 (0,0)):=by rw [<- hv];exact set3 g2
 have k1:v.heap[r1]? = some (.cells #[b0,b1,b2,b3] t (0,0)):=(F2.block r1 (Array.getElem?_eq_some_iff.1 g1).1 hne).trans g1
 refine ⟨(Below.heap_alloc v O r1 (Array.getElem?_eq_some_iff.1 k1).1).trans k1,(Below.heap_alloc v O r2 (Array.getElem?_eq_some_iff.1 k2).1).trans k2,?_⟩
 exact (((F1.mono (fun _ _ h=>.inl h)).trans (F2.mono (fun _ _ h=>.inr h))).alloc O).drew
open Go.RowKit
def Loc (o:Nat->Nat) (c:Nat) (p:World->Prop) (w:World):Prop:=
 ∀ w' T,Fr T w w'->(∀ k,k < w.heap.size->T k->o k≠c)->p w'
theorem Fr.join {S T:Nat->Prop}{a b c:World}(h:Fr S a b) (k:Fr T b c):Fr (fun x=>S x\/T x) a c:=
 (h.mono (fun _ _ h=>.inl h)).trans (k.mono (fun _ _ h=>.inr h))
theorem Loc.now {o:Nat->Nat}{c:Nat}{p:World->Prop}{w:World}(h:Loc o c p w):p w:=h w (fun _=>False) (Fr.refl _ w) (fun _ _ h=>h.elim)
theorem Loc.kept {o o':Nat->Nat}{c:Nat}{p:World->Prop}{w w':World}(h:Loc o c p w){T:Nat->Prop}(hf:Fr T w w') (ht:∀ k,k < w.heap.size->T k->o k≠c) (ho:∀ k,k < w.heap.size->o k=c->o' k=c):Loc o' c p w':=by
 intro w'' T' hf' ht'
 refine h w'' _ (hf.join hf') ?_
 rintro k hk (h1 | h1)
 ·exact ht k hk h1
 ·exact fun e=>ht' k (Nat.lt_of_lt_of_le hk hf.size) h1 (ho k hk e)
theorem Loc.mono {o:Nat->Nat}{c:Nat}{p q:World->Prop}{w:World}(h:Loc o c p w) (hq:∀ w,p w->q w):Loc o c q w:=fun w' T f t=>hq _ (h w' T f t)
theorem Loc.and {o:Nat->Nat}{c:Nat}{p q:World->Prop}{w:World}(h:Loc o c p w) (k:Loc o c q w):Loc o c (fun w=>p w/\q w) w:=fun w' T f t=>⟨h w' T f t,k w' T f t⟩
theorem Loc.sl {o:Nat->Nat}{c:Nat}{w:World}{e:TypeId}{size:Nat}{v:Value}{rows:List (List Value)}(h:Sl w e size v rows) (hv:∀ k,v.ownBlock=some k->o k=c):Loc o c (fun w=>Sl w e size v rows) w:=
 fun _ _ f t=>h.kept f (fun k hk ht=>t k (h.lt hk) ht (hv k hk))
theorem Loc.heap {o:Nat->Nat}{c:Nat}{w:World}{b:Nat}{x:Obj}(h:w.heap[b]? = some x) (hv:o b=c):Loc o c (fun w=>w.heap[b]? = some x) w:=
 fun _ _ f t=>(f.block b (Array.getElem?_eq_some_iff.1 h).1 (fun ht=>t b (Array.getElem?_eq_some_iff.1 h).1 ht hv)).trans h
theorem Loc.marked {o:Nat->Nat}{c:Nat}{w:World}{e:TypeId}{P:List Value}{v:Value}(h:Marked w e P v) (hv:∀ k,v.ownBlock=some k->o k=c):Loc o c (fun w=>Marked w e P v) w:=
 fun _ _ f t=>h.kept f (fun k hk ht=>t k (h.lt hk) ht (hv k hk))
theorem Inl.lt {w:World}{size:Nat}{v:Value}{rows:List (List Value)}(h:Inl w size v rows) (hs:0 < size) (hr:rows≠[]){k:Nat}(hk:inBlock v=some k):k < w.heap.size:=by
 obtain ⟨a,c,rfl,hm,hr'⟩:=h.form
 rcases hr' with rfl | ⟨b,off,rfl,hra⟩
 ·exact absurd rfl hr
 ·cases rows with
  | nil=>exact absurd rfl hr
  | cons r rs=>
   simp only [List.length_cons,inBlock,Option.some.injEq] at hk
   subst hk
   have hlr:=h.len r (by simp)
   cases r with
   | nil=>simp at hlr;omega
   | cons u t=>exact block_lt_of_cell (a:=⟨b,off+0,none⟩) (hra 0 u (by simp))
open Go.RowKit
def nRow (n:Int):List Value:=[.int .i64 n]
def qRow' (p:Int×Int×Int×Int):List Value:=[.int .i64 p.1,.int .i64 p.2.1,.int .i64 p.2.2.1,.int .i64 p.2.2.2]
theorem sameThread_any (s c f g:Int) (v u:Value) (ws:List Int) (w:World) (iv:Inl w 1 v (ws.map nRow)) (iu:Inl w 1 u (ws.map nRow)) :
  Calls Tryz.prog 110 #[.agg #[.int .i64 s,.int .i64 c,.int .i64 f,v,.int .i64 g],.agg #[.int .i64 s,.int .i64 c,.int .i64 f,u,.int .i64 g]] w fun e w'=>e=.returned (.bool true)/\Below w.heap.size w w':=by
 obtain ⟨av,cv,ev⟩:=iv.slice
 obtain ⟨au,cu,eu⟩:=iu.slice
 have hml:ws.length<=maxLen:=by obtain ⟨_,_,_,h,_⟩:=iv.form;simpa using h
 rw [List.length_map] at ev eu
 subst ev eu
 generalize hn:ws.length=n at *
 unfold maxLen at hml
 have HI:=hid (And.intro iv (And.intro iu hn))
 clear iv iu hn
 go_enter Tryz.func110,Tryz.ntmps110
 go_wp2
 go_loopw [5] (fun i wr=>∃ k:Nat,k<=n/\i=.int .i64 k/\Below (w.heap.size+1+1) ((w.alloc (.cells #[.int .i64 s,.int .i64 c,.int .i64 f,.slice av n cv,.int .i64 g] 50)).alloc (.cells #[.int .i64 s,.int .i64 c,.int .i64 f,.slice au n cu,.int .i64 g] 50)) wr) (fun i _=>n-(intOf i).toNat)
 case atStart=>exact ⟨0,Nat.zero_le _,rfl,Below.refl _ _⟩
 case round=>
  obtain ⟨k,hk,rfl,hw⟩:=hrel
  have hw':Below ((w.alloc (.cells #[.int .i64 s,.int .i64 c,.int .i64 f,.slice av n cv,.int .i64 g] 50)).alloc (.cells #[.int .i64 s,.int .i64 c,.int .i64 f,.slice au n cu,.int .i64 g] 50)).heap.size ((w.alloc (.cells #[.int .i64 s,.int .i64 c,.int .i64 f,.slice av n cv,.int .i64 g] 50)).alloc (.cells #[.int .i64 s,.int .i64 c,.int .i64 f,.slice au n cu,.int .i64 g] 50)) wr:=by rw [size_alloc,size_alloc];exact hw
  have c1:wr.cell? ⟨w.heap.size,3,none⟩=some (.slice av n cv):=(hw.cell (p:=⟨w.heap.size,3,none⟩) (by show w.heap.size < _;omega)).trans ((cell_of_row _ _ 3 _ _ _ (heap_alloc2_old w _ _)).trans rfl)
  have c2:wr.cell? ⟨w.heap.size+1,3,none⟩=some (.slice au n cu):=(hw.cell (p:=⟨w.heap.size+1,3,none⟩) (by show w.heap.size+1 < _;omega)).trans ((cell_of_row _ _ 3 _ _ _ (heap_alloc2_new w _ _)).trans rfl)
  by_cases hlt:k < n
  ·obtain ⟨x,hx⟩:∃ x,ws[k]? = some x:=⟨_,List.getElem?_eq_getElem (by have:=HI.out.2.2;omega)⟩
   obtain ⟨b1,o1,e1,r1⟩:=(((HI.out.1.alloc (by decide) (.cells #[.int .i64 s,.int .i64 c,.int .i64 f,.slice av n cv,.int .i64 g] 50)).alloc (by decide) (.cells #[.int .i64 s,.int .i64 c,.int .i64 f,.slice au n cu,.int .i64 g] 50)).below (by decide) hw').row (k:=k) (r:=[.int .i64 x]) (by rw [List.getElem?_map,hx];rfl)
   obtain ⟨b2,o2,e2,r2⟩:=(((HI.out.2.1.alloc (by decide) (.cells #[.int .i64 s,.int .i64 c,.int .i64 f,.slice av n cv,.int .i64 g] 50)).alloc (by decide) (.cells #[.int .i64 s,.int .i64 c,.int .i64 f,.slice au n cu,.int .i64 g] 50)).below (by decide) hw').row (k:=k) (r:=[.int .i64 x]) (by rw [List.getElem?_map,hx];rfl)
   subst e1 e2
   have h1:=r1 0 (.int .i64 x) rfl
   have h2:=r2 0 (.int .i64 x) rfl
   simp only [Nat.mul_one,Nat.add_zero] at h1 h2
   have HW:=hid hw
   clear r1 r2 hx hw hw'
   go_wp2_with fail
   go_quiet (fail)
   go_wp2
   go_roundw
   case rel=>exact ⟨k+1,by omega,by go_num,below_drewN HW.out _⟩
   case measure=>simp [intOf];omega
  ·clear hw'
   have HW:=hid hw
   clear hw
   go_wp2
   go_ret
   exact ⟨rfl,(((Below.refl _ w).alloc (Nat.le_refl _) _).alloc (by simp) _).trans (HW.out.mono (by omega))⟩
theorem sameSpace_any (v u v' u':Value) (Q L:List (Int×Int×Int×Int)) (w:World) (iv:Inl w 4 v (Q.map qRow')) (iv':Inl w 4 v' (Q.map qRow')) (iu:Inl w 4 u (L.map qRow')) (iu':Inl w 4 u' (L.map qRow')) :
  Calls Tryz.prog 113 #[.agg #[v,u],.agg #[v',u']] w fun e w'=>e=.returned (.bool true)/\Below w.heap.size w w':=by
 obtain ⟨ap,cp,e1⟩:=iv.slice
 obtain ⟨bp,dp,e2⟩:=iv'.slice
 obtain ⟨aq,cq,e3⟩:=iu.slice
 obtain ⟨bq,dq,e4⟩:=iu'.slice
 have hm1:Q.length<=maxLen:=by obtain ⟨_,_,_,h,_⟩:=iv.form;simpa using h
 have hm2:L.length<=maxLen:=by obtain ⟨_,_,_,h,_⟩:=iu.form;simpa using h
 rw [List.length_map] at e1 e2 e3 e4
 subst e1 e2 e3 e4
 generalize hn:Q.length=n at *
 generalize hm:L.length=m at *
 unfold maxLen at hm1 hm2
 have HI:=hid (And.intro iv (And.intro iv' (And.intro iu iu')))
 have HN:=hid (And.intro hn hm)
 clear iv iv' iu iu' hn hm
 go_enter Tryz.func113,Tryz.ntmps113
 go_wp2
 go_loopw [5] (fun i wr=>∃ k:Nat,k<=n/\i=.int .i64 k/\Below (w.heap.size+1+1) ((w.alloc (.cells #[.slice ap n cp,.slice aq m cq] 122)).alloc (.cells #[.slice bp n dp,.slice bq m dq] 122)) wr) (fun i _=>n-(intOf i).toNat)
 case atStart=>exact ⟨0,Nat.zero_le _,rfl,Below.refl _ _⟩
 case round=>
  obtain ⟨k,hk,rfl,hw⟩:=hrel
  have hw':Below (World.heap ((w.alloc (.cells #[.slice ap n cp,.slice aq m cq] 122)).alloc (.cells #[.slice bp n dp,.slice bq m dq] 122))).size ((w.alloc (.cells #[.slice ap n cp,.slice aq m cq] 122)).alloc (.cells #[.slice bp n dp,.slice bq m dq] 122)) wr:=by rw [size_alloc,size_alloc];exact hw
  have c1:wr.cell? ⟨w.heap.size,0,none⟩=some (.slice ap n cp):=(hw.cell (p:=⟨w.heap.size,0,none⟩) (by show w.heap.size < _;omega)).trans ((cell_of_row _ _ 0 _ _ _ (heap_alloc2_old w _ _)).trans rfl)
  have c2:wr.cell? ⟨w.heap.size+1,0,none⟩=some (.slice bp n dp):=(hw.cell (p:=⟨w.heap.size+1,0,none⟩) (by show w.heap.size+1 < _;omega)).trans ((cell_of_row _ _ 0 _ _ _ (heap_alloc2_new w _ _)).trans rfl)
  by_cases hlt:k < n
  ·obtain ⟨x,hx⟩:∃ x,Q[k]? = some x:=⟨_,List.getElem?_eq_getElem (by have:=HN.out;omega)⟩
   obtain ⟨b1,o1,e1,r1⟩:=(((HI.out.1.alloc (by decide) _).alloc (by decide) _).below (by decide) hw').row (k:=k) (r:=[.int .i64 x.1,.int .i64 x.2.1,.int .i64 x.2.2.1,.int .i64 x.2.2.2]) (by rw [List.getElem?_map,hx];rfl)
   obtain ⟨b2,o2,e2,r2⟩:=(((HI.out.2.1.alloc (by decide) _).alloc (by decide) _).below (by decide) hw').row (k:=k) (r:=[.int .i64 x.1,.int .i64 x.2.1,.int .i64 x.2.2.1,.int .i64 x.2.2.2]) (by rw [List.getElem?_map,hx];rfl)
   subst e1 e2
   have g0:=r1 0 (.int .i64 x.1) rfl
   have g1:=r1 1 (.int .i64 x.2.1) rfl
   have g2:=r1 2 (.int .i64 x.2.2.1) rfl
   have g3:=r1 3 (.int .i64 x.2.2.2) rfl
   have k0:=r2 0 (.int .i64 x.1) rfl
   have k1:=r2 1 (.int .i64 x.2.1) rfl
   have k2:=r2 2 (.int .i64 x.2.2.1) rfl
   have k3:=r2 3 (.int .i64 x.2.2.2) rfl
   simp only [Nat.add_zero] at g0 k0
   have HW:=hid hw'
   clear r1 r2 hx hw hw'
   go_wp2_with fail
   go_cut [6] (fun s wc=>s=.bool true/\Below wr.heap.size wr wc)
   case first=>
    go_region_with (go_at_call 93;refine (samePass_any _ _ _ _ _ _ _ _ _).mono ?_;rintro e w1 ⟨rfl,hb1⟩)
    all_goals
     go_wp2
     go_meet
     case rel=>exact ⟨by simp,Below.trans (b:=wr.drew) ((Below.refl _ wr).drew) hb1⟩
   case rest=>
   obtain ⟨rfl,hcut2⟩:=hcut
   have HB2:=hid (HW.out.trans (hcut2.mono HW.out.size))
   rw [size_alloc,size_alloc] at HB2
   clear hcut2
   go_wp2
   refine ⟨⟨k+1,by omega,by go_num,HB2.out⟩,by simp [intOf];omega⟩
  ·clear hw'
   have HW:=hid hw
   clear hw
   go_wp2_with fail
   clear c1 c2 hk hlt
   go_loopw [7] (fun i wr=>∃ k:Nat,k<=m/\i=.int .i64 k/\Below (w.heap.size+1+1) ((w.alloc (.cells #[.slice ap n cp,.slice aq m cq] 122)).alloc (.cells #[.slice bp n dp,.slice bq m dq] 122)) wr) (fun i _=>m-(intOf i).toNat)
   case atStart=>exact ⟨0,Nat.zero_le _,rfl,HW.out⟩
   case round=>
    obtain ⟨k,hk,rfl,hw⟩:=hrel
    have hw':Below (World.heap ((w.alloc (.cells #[.slice ap n cp,.slice aq m cq] 122)).alloc (.cells #[.slice bp n dp,.slice bq m dq] 122))).size ((w.alloc (.cells #[.slice ap n cp,.slice aq m cq] 122)).alloc (.cells #[.slice bp n dp,.slice bq m dq] 122)) wr:=by rw [size_alloc,size_alloc];exact hw
    have c1:wr.cell? ⟨w.heap.size,1,none⟩=some (.slice aq m cq):=(hw.cell (p:=⟨w.heap.size,1,none⟩) (by show w.heap.size < _;omega)).trans ((cell_of_row _ _ 1 _ _ _ (heap_alloc2_old w _ _)).trans rfl)
    have c2:wr.cell? ⟨w.heap.size+1,1,none⟩=some (.slice bq m dq):=(hw.cell (p:=⟨w.heap.size+1,1,none⟩) (by show w.heap.size+1 < _;omega)).trans ((cell_of_row _ _ 1 _ _ _ (heap_alloc2_new w _ _)).trans rfl)
    by_cases hlt:k < m
    ·obtain ⟨x,hx⟩:∃ x,L[k]? = some x:=⟨_,List.getElem?_eq_getElem (by have:=HN.out;omega)⟩
     obtain ⟨b1,o1,e1,r1⟩:=(((HI.out.2.2.1.alloc (by decide) _).alloc (by decide) _).below (by decide) hw').row (k:=k) (r:=[.int .i64 x.1,.int .i64 x.2.1,.int .i64 x.2.2.1,.int .i64 x.2.2.2]) (by rw [List.getElem?_map,hx];rfl)
     obtain ⟨b2,o2,e2,r2⟩:=(((HI.out.2.2.2.alloc (by decide) _).alloc (by decide) _).below (by decide) hw').row (k:=k) (r:=[.int .i64 x.1,.int .i64 x.2.1,.int .i64 x.2.2.1,.int .i64 x.2.2.2]) (by rw [List.getElem?_map,hx];rfl)
     subst e1 e2
     have g0:=r1 0 (.int .i64 x.1) rfl
     have g1:=r1 1 (.int .i64 x.2.1) rfl
     have g2:=r1 2 (.int .i64 x.2.2.1) rfl
     have g3:=r1 3 (.int .i64 x.2.2.2) rfl
     have k0:=r2 0 (.int .i64 x.1) rfl
     have k1:=r2 1 (.int .i64 x.2.1) rfl
     have k2:=r2 2 (.int .i64 x.2.2.1) rfl
     have k3:=r2 3 (.int .i64 x.2.2.2) rfl
     simp only [Nat.add_zero] at g0 k0
     have HW:=hid hw'
     clear r1 r2 hx hw hw'
     go_wp2_with fail
     go_cut [8] (fun s wc=>s=.bool true/\Below wr.heap.size wr wc)
     case first=>
      go_region_with (go_at_call 94;refine (sameLeaf_any _ _ _ _ _ _ _ _ _).mono ?_;rintro e w1 ⟨rfl,hb1⟩)
      all_goals
       go_wp2
       go_meet
       case rel=>exact ⟨by simp,Below.trans (b:=wr.drew) ((Below.refl _ wr).drew) hb1⟩
     case rest=>
     obtain ⟨rfl,hcut2⟩:=hcut
     have HB2:=hid (HW.out.trans (hcut2.mono HW.out.size))
     rw [size_alloc,size_alloc] at HB2
     clear hcut2
     go_wp2
     go_roundw
     case rel=>first | exact ⟨k+1,by omega,by go_num,HB2.out⟩ | ((repeat apply Exists.intro);exact ⟨⟨k+1,by omega,by go_num,HB2.out⟩,rfl⟩)
     case measure=>simp [intOf];omega
    ·clear hw'
     have HW:=hid hw
     clear hw
     go_wp2
     go_ret
     exact ⟨rfl,(((Below.refl _ w).alloc (Nat.le_refl _) _).alloc (by simp) _).trans (HW.out.mono (by omega))⟩
open Go.RowKit
def lnRow (t:Nat):List Value:=[.int .i64 t]
theorem Tryz.infoN3:(Tryz.prog.info? 3).map (fun i=>(i.zero,i.size,i.bytes))=some (some (.int .i64 0),1,8):=by kernel_rfl
theorem index_any (v:Value) (l:List Nat) (x:Nat) (w:World) (hs:Sl w 3 1 v (l.map lnRow)) (hl:l.length<=1000) :
  Calls Tryz.prog 159 #[v,.int .i64 x] w fun e w'=>∃ r:Int,e=.returned (.int .i64 r)/\((r=-1/\x ∉ l)\/∃ i:Nat,r=i/\l[i]? = some x)/\w'=w:=by
 obtain ⟨a,c,ev⟩:=hs.slice
 rw [List.length_map] at ev
 subst ev
 obtain ⟨m,hn'⟩:∃ m,l.length=m:=⟨_,rfl⟩
 rw [hn'] at hs hl ⊢
 have HS:=hid hs
 have HN:=hid hn'
 clear hs hn'
 go_enter Tryz.func159,Tryz.ntmps159
 go_wp2
 go_loop [8] (fun i=>∃ k:Nat,k<=m/\i=.int .i64 k/\Hid (∀ (i:Nat) p,i < k->l[i]? = some p->p≠x)) (fun i=>m-(intOf i).toNat)
 case atStart=>exact ⟨0,Nat.zero_le _,rfl,fun i p h=>absurd h (by omega)⟩
 case round=>
  obtain ⟨k,hk,rfl,hno⟩:=hrel
  by_cases hlt:k < m
  ·obtain ⟨p,hp⟩:∃ p,l[k]? = some p:=⟨_,List.getElem?_eq_getElem (by have:=HN.out;omega)⟩
   obtain ⟨g,ea,hx⟩:=HS.out.is_some (by omega)
   clear hx
   subst ea
   have r1:=HS.out.row (i:=k) (r:=[.int .i64 p]) (by rw [List.getElem?_map,hp];rfl)
   have g0:=r1 0 (.int .i64 p) rfl
   simp only [Nat.add_zero,Nat.mul_one] at g0
   have HP:=hid hp
   clear r1 hp
   by_cases f0:p=x
   ·have d0:((x:Int) == (p:Int))=true:=by simp [f0]
    have F:=hid f0
    clear f0
    go_wp2
    go_ret
    exact ⟨_,rfl,.inr ⟨k,rfl,F.out ▸ HP.out⟩,rfl⟩
   ·have d0:((x:Int) == (p:Int))=false:=by simp;omega
    have F:=hid f0
    clear f0
    go_wp2
    refine ⟨⟨k+1,by omega,by go_num,?_⟩,by simp [intOf];omega⟩
    intro i q hi hq
    by_cases e:i < k
    ·exact hno.out i q e hq
    ·have:i=k:=by omega
     subst this
     have:=HP.out
     rw [this] at hq;cases hq
     exact F.out
  ·go_wp2
   go_ret
   refine ⟨_,rfl,.inl ⟨rfl,fun hm=>?_⟩,rfl⟩
   obtain ⟨i,hi⟩:=List.mem_iff_getElem?.1 hm
   exact hno.out i x (by have:=(List.getElem?_eq_some_iff.1 hi).1;have:=HN.out;omega) hi rfl
theorem flat_take:∀ (rows:List (List Value)) (k:Nat),(∀ r∈rows,r.length=1)->(rows.take k).flatten=rows.flatten.take k
 | [],k,_=>by simp
 | r :: rs,0,_=>by simp
 | r :: rs,k+1,h=>by
  have hr:=h r (by simp)
  obtain ⟨v,rfl⟩:∃ v,r=[v]:=by
   match r,hr with
   | [v],_=>exact ⟨v,rfl⟩
  simp [flat_take rs k (fun r hr=>h r (by simp [hr]))]
theorem flat_drop:∀ (rows:List (List Value)) (k:Nat),(∀ r∈rows,r.length=1)->(rows.drop k).flatten=rows.flatten.drop k
 | [],k,_=>by simp
 | r :: rs,0,_=>by simp
 | r :: rs,k+1,h=>by
  have hr:=h r (by simp)
  obtain ⟨v,rfl⟩:∃ v,r=[v]:=by
   match r,hr with
   | [v],_=>exact ⟨v,rfl⟩
  simp [flat_drop rs k (fun r hr=>h r (by simp [hr]))]
section
variable {P:Program}(w:World)
theorem run_delete (t ty e:TypeId) (i0:TypeInfo) (ht:P.underlying t=some (.slice e)) (hi:P.info? e=some i0) (hsize:i0.size=1) (g n cap:Nat) (rows:List (List Value)) (hs:Sl w e 1 (.slice (some ⟨g,0,none⟩) n cap) rows)
  (h1:∀ r∈rows,∀ u∈r,u.oneCell'=true) (i:Nat) (hin:i < n) (a:Addr) (c:Nat) (ha:i+1 < n->a=⟨g,i+1,none⟩) :
  ∃ w1,(Builtin.append_ #[t,t] ty #[.slice (some ⟨g,0,none⟩) i cap,.slice (some a) (n-(i+1)) c]).run P w=.ok (.slice (some ⟨g,0,none⟩) (n-1) cap) w1 /\
   Sl w1 e 1 (.slice (some ⟨g,0,none⟩) (n-1) cap) (rows.eraseIdx i)/\w.grownBy w1 (some g)/\(∃ u,w1.cell? ⟨g,n-1,none⟩=some u)/\w1.frozen? ⟨g,n-1,none⟩=false:=by
 have hn:=hs.n_eq
 have hfl:=flatten_len rows hs.len
 rcases hs.own.2 with ⟨hx,_⟩ | ⟨g',cap',cur,hx,_,hg,h3,h4,h5,h6⟩
 ·simp at hx
 ·simp only [Value.slice.injEq,Option.some.injEq,Addr.mk.injEq,and_true] at hx
  obtain ⟨rfl,_,rfl⟩:=hx
  rw [<- hn] at h3 h6
  rw [Nat.mul_one] at h5 h6 hfl
  have hnl:(rows.flatten.drop (i+1)).length=n-(i+1):=by rw [List.length_drop,hfl,hn]
  have hcell:∀ (j:Nat) (u:Value),j < n->rows.flatten[j]? = some u->w.cell? ⟨g,j,none⟩=some u:=by
   intro j u hj hu
   rw [cell_of_row w g j _ _ _ hg]
   rw [<- h6,List.getElem?_take_of_lt hj] at hu
   simpa using hu
  have hnews:∀ (j:Nat) (u:Value),(rows.flatten.drop (i+1))[j]? = some u->w.cell? (a.add j)=some u:=by
   intro j u hu
   have hj:j < (rows.flatten.drop (i+1)).length:=(List.getElem?_eq_some_iff.1 hu).1
   rw [hnl] at hj
   rw [ha (by omega)]
   rw [List.getElem?_drop] at hu
   rw [Addr.add_mid]
   exact hcell (i+1+j) u (by omega) hu
  have hone:∀ u∈rows.flatten.drop (i+1),u.oneCell'=true:=by
   intro u hu
   obtain ⟨r,hr,hur⟩:=List.mem_flatten.1 (List.mem_of_mem_drop hu)
   exact h1 r hr u hur
  have hr:=run_append_room (P:=P) w t ty e i0 ht hi g i cap cur hg a (n-(i+1)) c (rows.flatten.drop (i+1)) (by rw [hnl,hsize,Nat.mul_one]) hnews hone (by omega) (by rw [hnl,hsize,Nat.mul_one];omega)
  rw [hsize,Nat.mul_one,hnl,show i+(n-(i+1))=n-1 by omega] at hr
  have hcl:cur.toList.length=cap:=by rw [Array.length_toList,h5]
  refine ⟨_,hr,⟨⟨?_,.inr ⟨g,cap,_,?_,Nat.zero_le _,setRow_heap w g cur _ e _ hg,?_,h4,?_,?_⟩⟩,fun r hr=>hs.len r (List.mem_of_mem_eraseIdx hr)⟩,grown_setRow w g _,?_,?_⟩
  ·rw [flatten_len (rows.eraseIdx i) (fun r hr=>hs.len r (List.mem_of_mem_eraseIdx hr))]
  ·rw [List.length_eraseIdx_of_lt (by omega),<- hn]
  ·rw [List.length_eraseIdx_of_lt (by omega),<- hn];omega
  ·rw [Nat.mul_one,List.size_toArray,List.length_append,List.length_append,hnl,List.length_take,List.length_drop,hcl];omega
  ·rw [List.length_eraseIdx_of_lt (by omega),<- hn,Nat.mul_one,List.eraseIdx_eq_take_drop_succ,List.flatten_append,flat_take rows i hs.len,flat_drop rows (i+1) hs.len]
   show List.take (n-1) (List.take i cur.toList ++ rows.flatten.drop (i+1) ++ List.drop (n-1) cur.toList)=_
   have e1:List.take i cur.toList=rows.flatten.take i:=by rw [<- h6,List.take_take,Nat.min_eq_left (by omega)]
   rw [e1,List.take_append_of_le_length (by rw [List.length_append,hnl,List.length_take,hfl,<- hn];omega)]
   rw [List.take_of_length_le (by rw [List.length_append,hnl,List.length_take,hfl,<- hn];omega)]
  ·rw [cell_of_row _ g (n-1) _ _ _ (setRow_heap w g cur _ e _ hg)]
   refine ⟨_,Array.getElem?_eq_getElem ?_⟩
   rw [List.size_toArray,List.length_append,List.length_append,hnl,List.length_take,List.length_drop,hcl];omega
  ·unfold World.frozen?
   rw [setRow_heap w g cur _ e _ hg]
   simp
theorem step_delete {ops:Array Oper}{o:Oper}{ac:Act}{K:Act->World->Prop}{Q:Exit->Act->World->Prop}{E:Prop}(hgd:o.guard=none) (s x:Operand) (t:TypeId)
  (ho:o.op=.call { callee:=.builtin .append,args:=#[s,x],argTypes:=#[t,t] }) (e:TypeId) (i0:TypeInfo) (ht:P.underlying t=some (.slice e)) (hi:P.info? e=some i0) (hsize:i0.size=1) (g n cap:Nat) (rows:List (List Value)) (hs:Sl w e 1 (.slice (some ⟨g,0,none⟩) n cap) rows)
  (h1:∀ r∈rows,∀ u∈r,u.oneCell'=true) (i:Nat) (hin:i < n) (a:Addr) (m c:Nat) (hm:m=n-(i+1)) (ha:i+1 < n->a=⟨g,i+1,none⟩) (hsv:ac.eval s=.slice (some ⟨g,0,none⟩) i cap) (hxv:ac.eval x=.slice (some a) m c)
  (h:∀ w1,Sl w1 e 1 (.slice (some ⟨g,0,none⟩) (n-1) cap) (rows.eraseIdx i)/\w.grownBy w1 (some g)/\(∃ u,w1.cell? ⟨g,n-1,none⟩=some u)/\w1.frozen? ⟨g,n-1,none⟩=false->K (ac.put o.dst (.slice (some ⟨g,0,none⟩) (n-1) cap)) w1) :
  if Region.wanted o (yielded ops ac.tmps)=true then Oper.wp P o ac w K Q else E:=by
 subst hm
 obtain ⟨w1,hr,hG⟩:=run_delete (P:=P) w t o.type e i0 ht hi hsize g n cap rows hs h1 i hin a c ha
 have hw:Region.wanted o (yielded ops ac.tmps)=true:=by simp [Region.wanted,hgd]
 rw [if_pos hw]
 unfold Oper.wp
 simp [execOp,ho,resolve,invoke,builtin,hsv,hxv,hr,Result.andThen]
 exact h w1 hG
theorem wpList_clear1 {ops:Array Oper}{rest:List Oper}{o:Oper}{ac:Act}{Q:Exit->Act->World->Prop}(hgd:o.guard=none) (s:Operand) (t:TypeId)
  (ho:o.op=.call { callee:=.builtin .clear,args:=#[s],argTypes:=#[t] }) (e:TypeId) (z:Value) (ht:P.underlying t=some (.slice e)) (hv:∀ w,(zeroValue e).run P w=.ok z w) (hz:z.cells=#[z]) (h1:z.oneCell'=true) (g b m c:Nat) (hm:m=1) (hsv:ac.eval s=.slice (some ⟨g,b,none⟩) m c)
  (hc:∃ u,w.cell? ⟨g,b,none⟩=some u) (hf:w.frozen? ⟨g,b,none⟩=false)
  (h:wpList P ops Q rest (ac.put o.dst (.tuple #[])) (w.setCells g b [z])):wpList P ops Q (o :: rest) ac w:=by
 subst hm
 obtain ⟨u,hu⟩:=hc
 have hcc:∀ j,j < 1->(w.cell? ⟨g,b+j,none⟩).isSome=true:=by
  intro j hj
  obtain rfl:j=0:=by omega
  simp [hu]
 have hff:∀ j,j < 1->w.frozen? ⟨g,b+j,none⟩=false:=by
  intro j hj
  obtain rfl:j=0:=by omega
  simpa using hf
 have hr:=Go.Lib.run_clear_slice (P:=P) w t e o.type z ht hv hz h1 g b 1 c (by omega) hcc hff
 refine wpList_plain hgd fun K hK=>?_
 unfold Oper.wp
 simp [execOp,ho,resolve,invoke,builtin,hsv,hr,Result.andThen]
 exact hK _ _ h
end
open Go.RowKit
theorem Tryz.zero3 (w:World):(zeroValue 3).run Tryz.prog w=.ok (.int .i64 0) w:=by kernel_rfl
theorem ln_one (l:List Nat):∀ r∈l.map lnRow,∀ u∈r,u.oneCell'=true:=by
 intro r hr u hu
 obtain ⟨t,_,rfl⟩:=List.mem_map.1 hr
 simp [lnRow] at hu
 subst hu
 rfl
theorem del_end {w w1:World}{g n cap i:Nat}{l:List Nat}(h:Sl w1 3 1 (.slice (some ⟨g,0,none⟩) n cap) ((l.map lnRow).eraseIdx i)) (hg:w.grownBy w1 (some g)) :
  Ending.returned (.slice (some ⟨g,0,none⟩) n cap)=.returned (.slice (some ⟨g,0,none⟩) n cap)/\Sl (w1.setCells g n [.int .i64 0]) 3 1 (.slice (some ⟨g,0,none⟩) n cap) ((l.eraseIdx i).map lnRow)/\w.grownBy (w1.setCells g n [.int .i64 0]) (some g):=by
 have hn:=h.n_eq
 have e:(l.map lnRow).eraseIdx i=(l.eraseIdx i).map lnRow:=by simp [List.eraseIdx_eq_take_drop_succ]
 rw [e] at h hn
 subst hn
 have h2:=setCells_owns [.int .i64 0] ((l.eraseIdx i).map lnRow).length w1 _ h.own
 have hl:=flatten_len ((l.eraseIdx i).map lnRow) h.len
 have e2:setAt ((l.eraseIdx i).map lnRow).flatten ((l.eraseIdx i).map lnRow).length [.int .i64 0]=((l.eraseIdx i).map lnRow).flatten:=by
  simp only [setAt]
  rw [List.set_eq_of_length_le (by rw [hl];omega)]
 rw [e2] at h2
 refine ⟨rfl,⟨h2.1,h.len⟩,?_⟩
 have a:=hg
 have b:=h2.2
 exact ⟨b.os.trans a.os,b.tape.trans a.tape,b.output.trans a.output,Nat.le_trans a.size b.size,fun k hk hne=>(b.block k (Nat.lt_of_lt_of_le hk a.size) hne).trans (a.block k hk hne)⟩
theorem delete_any (g n cap:Nat) (l:List Nat) (i:Nat) (w:World) (hs:Sl w 3 1 (.slice (some ⟨g,0,none⟩) n cap) (l.map lnRow)) (hl:n<=1000) (hi:i < n) (hcap:n<=cap) (hcm:cap<=9223372036854775807) :
  Calls Tryz.prog 160 #[.slice (some ⟨g,0,none⟩) n cap,.int .i64 i,.int .i64 (i+1)] w fun e w'=>e=.returned (.slice (some ⟨g,0,none⟩) (n-1) cap)/\Sl w' 3 1 (.slice (some ⟨g,0,none⟩) (n-1) cap) ((l.eraseIdx i).map lnRow)/\w.grownBy w' (some g):=by
 obtain ⟨i0,hi0,hz0,hz1,hz2⟩:=info_parts Tryz.infoN3
 have HS:=hid hs
 have hz:=Tryz.zero3
 have b1:((i:Int) == (i:Int)+1)=false:=by simp;omega
 clear hs
 by_cases hc:cap=i+1
 ·have hn:n=i+1:=by omega
  subst hc hn
  have q1:(i:Int)<=(i:Int)+1:=by omega
  have q4:0<=(i:Int)+1:=by omega
  go_enter Tryz.func160,Tryz.ntmps160
  go_wp2_with fail
  go_region_law (refine step_delete _ rfl (.tmp 22) (.tmp 25) 24 rfl 3 i0 Tryz.underlying24 hi0 hz1 g (i+1) (i+1) (l.map lnRow) HS.out.drew (ln_one l) i (by omega) ⟨g,0,none⟩ 0 0 (by omega) (fun h=>absurd h (by omega)) (by simp [Act.eval,Act.put]) (by simp [Act.eval,Act.put]) ?_;intro w1 HG;rw [Nat.add_sub_cancel] at HG;replace HG:=hid HG)
  all_goals
   have hcc:=HG.out.2.2.1
   have hff:=HG.out.2.2.2
   go_wp2_with (with_reducible (show wpList _ _ _ (⟨_,.call { callee:=.builtin .clear,args:=#[_],argTypes:=#[24] },_,_,_,none⟩ :: _) _ _);go_must (refine wpList_clear1 _ rfl (.tmp 31) 24 rfl 3 (.int .i64 0) Tryz.underlying24 hz rfl rfl g i 1 1 rfl (by simp [Act.eval]) hcc hff ?_))
   go_ret
   exact del_end HG.out.1 ⟨HG.out.2.1.os,HG.out.2.1.tape,HG.out.2.1.output,HG.out.2.1.size,HG.out.2.1.block⟩
 ·have q1:i<=cap:=by omega
  have q2:(i:Int)+1<=(n:Int):=by omega
  have q3:i+1<=n:=by omega
  have q4:0<=(i:Int)+1:=by omega
  have q5:((i:Int)+1).toNat=i+1:=by omega
  go_enter Tryz.func160,Tryz.ntmps160
  go_wp2_with fail
  go_region_law (refine step_delete _ rfl (.tmp 22) (.tmp 25) 24 rfl 3 i0 Tryz.underlying24 hi0 hz1 g n cap (l.map lnRow) HS.out.drew (ln_one l) i (by omega) ⟨g,i+1,none⟩ (n-(i+1)) (cap-(i+1)) (by omega) (fun _=>rfl) (by simp [Act.eval,Act.put]) (by simp [Act.eval,Act.put]) ?_;intro w1 HG;replace HG:=hid HG)
  all_goals
   have hcc:=HG.out.2.2.1
   have hff:=HG.out.2.2.2
   have q6:¬ cap=n-1:=by omega
   have q7:n-1<=n:=by omega
   go_wp2_with (with_reducible (show wpList _ _ _ (⟨_,.call { callee:=.builtin .clear,args:=#[_],argTypes:=#[24] },_,_,_,none⟩ :: _) _ _);go_must (refine wpList_clear1 _ rfl (.tmp 31) 24 rfl 3 (.int .i64 0) Tryz.underlying24 hz rfl rfl g (n-1) (n-(n-1)) (cap-(n-1)) (by omega) (by simp [Act.eval]) hcc hff ?_))
   go_ret
   exact del_end HG.out.1 ⟨HG.out.2.1.os,HG.out.2.1.tape,HG.out.2.1.output,HG.out.2.1.size,HG.out.2.1.block⟩
theorem erase_idx:∀ {l:List Nat}{i x:Nat},l[i]? = some x->l.Nodup->l.eraseIdx i=l.erase x
 | [],i,x,h,_=>by simp at h
 | y :: r,0,x,h,_=>by simp at h;subst h;simp
 | y :: r,i+1,x,h,hn=>by
  simp at h
  have hm:x∈r:=List.mem_of_getElem? h
  have hy:y≠x:=fun e=>(List.nodup_cons.1 hn).1 (e ▸ hm)
  rw [List.erase_cons_tail (by simpa using hy),List.eraseIdx_cons_succ,erase_idx h (List.nodup_cons.1 hn).2]
open Go.RowKit
theorem Sl.cap {w:World}{e:TypeId}{size g n cap:Nat}{rows:List (List Value)}(h:Sl w e size (.slice (some ⟨g,0,none⟩) n cap) rows):n<=cap/\cap<=maxLen:=by
 rcases h.own.2 with ⟨hx,_⟩ | ⟨g',cap',cur,hx,_,hg,h3,h4,h5,h6⟩
 ·simp at hx
 ·simp only [Value.slice.injEq,Option.some.injEq,Addr.mk.injEq,and_true] at hx
  obtain ⟨rfl,h,rfl⟩:=hx
  rw [<- h] at h3
  exact ⟨h3,h4⟩
theorem index_no (v:Value) (l:List Nat) (x:Nat) (w:World) (hs:Sl w 3 1 v (l.map lnRow)) (hl:l.length<=1000) (hx:x ∉ l) :
  Calls Tryz.prog 159 #[v,.int .i64 x] w fun e w'=>e=.returned (.int .i64 (-1))/\w'=w:=by
 refine (index_any v l x w hs hl).mono ?_
 rintro e w' ⟨r,rfl,hr,rfl⟩
 rcases hr with ⟨rfl,_⟩ | ⟨i,_,hi⟩
 ·exact ⟨rfl,rfl⟩
 ·exact absurd (List.mem_of_getElem? hi) hx
theorem index_yes (v:Value) (l:List Nat) (x i:Nat) (w:World) (hs:Sl w 3 1 v (l.map lnRow)) (hl:l.length<=1000) (hx:l[i]? = some x) (hn:l.Nodup) :
  Calls Tryz.prog 159 #[v,.int .i64 x] w fun e w'=>e=.returned (.int .i64 i)/\w'=w:=by
 refine (index_any v l x w hs hl).mono ?_
 rintro e w' ⟨r,rfl,hr,rfl⟩
 rcases hr with ⟨rfl,h⟩ | ⟨j,rfl,hi⟩
 ·exact absurd (List.mem_of_getElem? hx) h
 ·have h1:=(List.getElem?_eq_some_iff.1 hx).1
  have:i=j:=(List.getElem?_inj h1 hn).1 (hx.trans hi.symm)
  subst this
  exact ⟨rfl,rfl⟩
theorem set_same {cs:Array Value}{off:Nat}{v:Value}(h:cs[off]? = some v):cs.setIfInBounds off v=cs:=by
 obtain ⟨hi,rfl⟩:=Array.getElem?_eq_some_iff.1 h
 exact Array.ext_getElem? (fun j=>by
  rw [Array.getElem?_setIfInBounds]
  split
  ·rename_i e;subst e;simp [hi]
  ·rfl)
theorem leave_any (x off:Nat) (v:Value) (l:List Nat) (t:Nat) (cs:Array Value) (ty:TypeId) (w:World) (hb:w.heap[x]? = some (.cells cs ty (0,0))) (hv:cs[off]? = some v) (hs:Sl w 3 1 v (l.map lnRow)) (hl:l.length<=1000) (hn:l.Nodup) (hne:v.ownBlock≠some x) :
  Calls Tryz.prog 124 #[.pointer (some ⟨x,off,none⟩),.int .i64 t] w fun e w'=>e=.returned (.tuple #[])/\∃ v',w'.heap[x]? = some (.cells (cs.setIfInBounds off v') ty (0,0))/\Sl w' 3 1 v' ((l.erase t).map lnRow)/\Fr (fun k=>k=x\/v.ownBlock=some k) w w'/\v'.ownBlock=v.ownBlock:=by
 have hc:w.cell? ⟨x,off,none⟩=some v:=(cell_of_row w x off _ _ _ hb).trans hv
 have hf:w.frozen? ⟨x,off,none⟩=false:=frozen_of_row w x off _ _ hb
 obtain ⟨a,c,ev⟩:=hs.slice
 rw [List.length_map] at ev
 subst ev
 obtain ⟨m,hm⟩:∃ m,l.length=m:=⟨_,rfl⟩
 rw [hm] at hs hl hc hne hv
 have HA:=hid (And.intro hs (And.intro hb (And.intro hn (And.intro hm (And.intro hne hv)))))
 clear hs hb hn hne hv
 rw [hm]
 clear hm
 by_cases hnm:t∈l
 ·obtain ⟨i,hi⟩:=List.mem_iff_getElem?.1 hnm
  have HI:=hid hi
  have hil:i < m:=by rw [<- HA.out.2.2.2.1];exact (List.getElem?_eq_some_iff.1 hi).1
  clear hi hnm
  obtain ⟨g,ea,hx⟩:=HA.out.1.is_some (by omega)
  clear hx
  subst ea
  have hcp:=HA.out.1.cap
  have hc1:=hcp.1
  have hc2:c<=9223372036854775807:=by have:=hcp.2;unfold maxLen at this;omega
  clear hcp
  go_enter Tryz.func124,Tryz.ntmps124
  go_wp2_with (first
   | (go_at_call 159;refine (index_yes (.slice (some ⟨g,0,none⟩) m c) l t i _ ?_ ?_ ?_ ?_).mono ?_;exact HA.out.1;exact HA.out.2.2.2.1 ▸ hl;exact HI.out;exact HA.out.2.2.1;rintro e w1 ⟨rfl,rfl⟩)
   | (go_at_call 160;refine (delete_any g m c l i _ ?_ ?_ ?_ ?_ ?_).mono ?_;exact HA.out.1;exact hl;exact hil;exact hc1;exact hc2;rintro e w2 ⟨rfl,H2⟩;replace H2:=hid H2;have hf2:=frozen_of_row w2 x off _ _ ((H2.out.2.block x (Array.getElem?_eq_some_iff.1 HA.out.2.1).1 (fun h=>HA.out.2.2.2.2.1 h.symm)).trans HA.out.2.1);have hc3:=(cell_of_row w2 x off _ _ _ ((H2.out.2.block x (Array.getElem?_eq_some_iff.1 HA.out.2.1).1 (fun h=>HA.out.2.2.2.2.1 h.symm)).trans HA.out.2.1)).trans HA.out.2.2.2.2.2))
  go_end0
  have hb2:=(H2.out.2.block x (Array.getElem?_eq_some_iff.1 HA.out.2.1).1 (fun h=>HA.out.2.2.2.2.1 h.symm)).trans HA.out.2.1
  have F1:Fr (fun k=>k=x\/Value.ownBlock (.slice (some ⟨g,0,none⟩) m c)=some k) w1 w2:=(Fr.grown H2.out.2).mono (fun k _ h=>.inr (by simpa [Value.ownBlock] using h))
  have F2:Fr (fun k=>k=x) w2 (w2.setCell ⟨x,off,none⟩ (.slice (some ⟨g,0,none⟩) (m-1) c)):=(Fr.refl (fun k=>k=x) w2).setCell (p:=⟨x,off,none⟩) (fun _=>rfl) _
  refine ⟨rfl,.slice (some ⟨g,0,none⟩) (m-1) c,heap_setCell_same w2 x off cs ty _ hb2,?_,F1.trans (F2.mono (fun k _ h=>.inl h)),rfl⟩
  rw [<- erase_idx HI.out HA.out.2.2.1]
  exact H2.out.1.kept F2 (fun k hk h=>HA.out.2.2.2.2.1 (by rw [<- h];exact hk))
 ·have HN:=hid hnm
  clear hnm
  go_enter Tryz.func124,Tryz.ntmps124
  go_wp2_with (go_at_call 159;refine (index_no (.slice a m c) l t _ ?_ ?_ ?_).mono ?_;exact HA.out.1;exact HA.out.2.2.2.1 ▸ hl;exact HN.out;rintro e w1 ⟨rfl,rfl⟩)
  go_end0
  refine ⟨rfl,.slice a m c,?_,?_,Fr.refl _ _,rfl⟩
  ·rw [set_same HA.out.2.2.2.2.2];exact HA.out.2.1
  ·rw [List.erase_of_not_mem HN.out];exact HA.out.1
theorem comeLast_any (x off:Nat) (v:Value) (l:List Nat) (t:Nat) (cs:Array Value) (ty:TypeId) (w:World) (hb:w.heap[x]? = some (.cells cs ty (0,0))) (hv:cs[off]? = some v) (hs:Sl w 3 1 v (l.map lnRow)) (hl:l.length<=1000) (hn:l.Nodup) (hne:v.ownBlock≠some x) :
  Calls Tryz.prog 131 #[.pointer (some ⟨x,off,none⟩),.int .i64 t] w fun e w'=>e=.returned (.tuple #[])/\∃ v',w'.heap[x]? = some (.cells (cs.setIfInBounds off v') ty (0,0))/\Sl w' 3 1 v' ((l.erase t ++ [t]).map lnRow)/\Fr (fun k=>k=x\/v.ownBlock=some k) w w'/\∀ k,v'.ownBlock=some k->w.heap.size<=k\/v.ownBlock=some k:=by
 obtain ⟨i0,hi0,hz0,hz1,hz2⟩:=info_parts Tryz.infoN3
 have hbl:=(Array.getElem?_eq_some_iff.1 hb).1
 have hlo:off < cs.size:=(Array.getElem?_eq_some_iff.1 hv).1
 have HA:=hid (And.intro hs (And.intro hb (And.intro hn (And.intro hl (And.intro hne hv)))))
 clear hs hb hn hl hne hv
 go_enter Tryz.func131,Tryz.ntmps131
 go_wp2_with fail
 go_at_call 124
 refine (leave_any x off v l t cs ty _ HA.out.2.1 HA.out.2.2.2.2.2 HA.out.1 HA.out.2.2.2.1 HA.out.2.2.1 HA.out.2.2.2.2.1).mono ?_
 rintro e w1 ⟨rfl,v1,H1⟩
 have hsl:=H1.2.1.slice
 rw [List.length_map] at hsl
 obtain ⟨a1,c1,rfl⟩:=hsl
 obtain ⟨m,hm⟩:∃ m,(l.erase t).length=m:=⟨_,rfl⟩
 rw [hm] at H1
 have hml:m<=1000:=by (have:=HA.out.2.2.2.1;have:=List.length_erase_le (a:=t) (l:=l);omega)
 replace H1:=hid (And.intro H1 hm)
 clear hm
 have hc1:w1.cell? ⟨x,off,none⟩=some (.slice a1 m c1):=(cell_of_row w1 x off _ _ _ H1.out.1.1).trans (by simp [hlo])
 have hbl1:=(Array.getElem?_eq_some_iff.1 H1.out.1.1).1
 have n1:Hid (Value.ownBlock (.slice a1 m c1)≠some x):=(by rw [H1.out.1.2.2.2];exact HA.out.2.2.2.2.1)
 go_wp2_with (at_builtin;go_must (refine wpList_append_sl _ rfl _ _ 24 rfl 3 i0 _ 1 8 Tryz.underlying24 hi0 hz0 hz1 hz2 rfl (by decide) (.slice a1 m c1) ((l.erase t).map lnRow) rfl (H1.out.1.2.1.alloc _) ⟨w1.heap.size,0,none⟩ 1 1 [[.int .i64 t]] rfl rfl (by decide) (by simp) (fun j u h=>cell_news w1 #[.int .i64 t] 3 j u (by simpa using h)) (fun u hu=>by simp at hu;subst hu;rfl) (by have:=H1.out.2;rw [List.length_map];unfold maxLen;omega) (by have:=H1.out.2;rw [List.length_map];omega) ?_);intro a4 c4 w4 G4;have hb4:Hid (w4.heap[x]? = some (.cells (cs.setIfInBounds off (.slice a1 m c1)) ty (0,0))):=(G4.old (by simp;omega) n1.out).trans (((Fr.refl (fun _=>False) w1).alloc _).block _ hbl1 id |>.trans H1.out.1.1);have hc4:w4.cell? ⟨x,off,none⟩=some (.slice a1 m c1):=(cell_of_row w4 _ off _ _ _ hb4.out).trans (by simp [hlo]);have hf4:w4.frozen? ⟨x,off,none⟩=false:=frozen_of_row _ _ _ _ _ hb4.out)
 go_end0
 rw [List.length_map] at G4
 generalize hv4:Value.slice a4 ((l.erase t).length+1) c4=v4 at G4 ⊢
 have F4:Fr (fun k=>k=x\/v.ownBlock=some k) w1 w4:=G4.fr ((Fr.refl _ w1).alloc _) (fun k hk _=>.inr (by rw [<- H1.out.1.2.2.2];exact hk))
 have F5:Fr (fun k=>k=x) w4 (w4.setCell ⟨x,off,none⟩ v4):=(Fr.refl (fun k=>k=x) w4).setCell (p:=⟨x,off,none⟩) (fun _=>rfl) _
 have hn4:∀ k,v4.ownBlock=some k->w.heap.size<=k\/v.ownBlock=some k:=by
  intro k hk
  rcases G4.at_ k hk with h | h
  ·left
   have:=H1.out.1.2.2.1.size
   simp at h
   omega
  ·right;rw [<- H1.out.1.2.2.2];exact h
 refine ⟨rfl,v4,?_,?_,(H1.out.1.2.2.1.trans F4).trans (F5.mono (fun k _ h=>.inl h)),hn4⟩
 ·have:=heap_setCell_same w4 x off _ ty v4 hb4.out
  rwa [Array.setIfInBounds_setIfInBounds] at this
 ·have h:=G4.sl
  rw [List.map_append]
  exact h.kept F5 (fun k hk e=>by
   subst e
   rcases hn4 _ hk with h | h
   ·omega
   ·exact HA.out.2.2.2.2.1 h)
end Go.Proofs.YteejjgbeknnmeaaGreatDoor
