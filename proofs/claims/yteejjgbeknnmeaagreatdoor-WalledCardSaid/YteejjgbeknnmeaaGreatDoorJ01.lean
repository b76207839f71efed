import Derived.WalkKit
import Derived.WalkSpells
import Derived.WalkLawsBesides
import Derived.Deep.MidRow
import Derived.Deep.RegionLaw
import Derived.Deep.RegionLawGrows
import Derived.Test.YteejjgbeknnmeaaGreatDoorRows
import Derived.Deep.QuietTactic
import Derived.BigQuiet
import Derived.Deep.WholeRow
import Derived.BigRegion
import Derived.Deep.DeepCutAuto
import Derived.Deep.RegionHeld3
import Derived.Deep.RegionHeldLaw
namespace Go.Proofs.YteejjgbeknnmeaaGreatDoor
open Go.RowKit
theorem ret_int {k:IntKind}{a b:Int}(h:a=b):Ending.returned (.int k a)=.returned (.int k b):=by rw [h]
theorem hid {p:Prop}(h:p):Hid p:=h
structure Fr (S:Nat->Prop) (w w':World):Prop where
 os:w'.os=w.os
 tape:w'.tape=w.tape
 output:w'.output=w.output
 size:w.heap.size<=w'.heap.size
 block:∀ k,k < w.heap.size->¬ S k->w'.heap[k]? = w.heap[k]?
theorem Fr.refl (S:Nat->Prop) (w:World):Fr S w w:=⟨rfl,rfl,rfl,Nat.le_refl _,fun _ _ _=>rfl⟩
theorem Fr.trans {S:Nat->Prop}{a b c:World}(h:Fr S a b) (k:Fr S b c):Fr S a c:=
 ⟨k.os.trans h.os,k.tape.trans h.tape,k.output.trans h.output,Nat.le_trans h.size k.size,
 fun i hi hs=>(k.block i (Nat.lt_of_lt_of_le hi h.size) hs).trans (h.block i hi hs)⟩
theorem Fr.mono {S T:Nat->Prop}{w w':World}(h:Fr S w w') (hST:∀ k,k < w.heap.size->S k->T k):Fr T w w':=
 ⟨h.os,h.tape,h.output,h.size,fun k hk hs=>h.block k hk (fun hS=>hs (hST k hk hS))⟩
theorem Fr.of_below {w w':World}(h:Below w.heap.size w w') (S:Nat->Prop):Fr S w w':=⟨h.os,h.tape,h.output,h.size,fun k hk _=>h.block k hk⟩
theorem Fr.to_below {S:Nat->Prop}{B:Nat}{w w':World}(h:Fr S w w') (hB:B<=w.heap.size) (hS:∀ k,S k->B<=k):Below B w w':=
 ⟨h.os,h.tape,h.output,h.size,fun k hk=>h.block k (by omega) (fun hs=>by have:=hS k hs;omega)⟩
theorem Fr.grown {w w':World}{row:Option Nat}(hg:w.grownBy w' row):Fr (fun k=>row=some k) w w':=
 ⟨hg.os,hg.tape,hg.output,hg.size,fun k hk hs=>hg.block k hk (fun e=>hs e.symm)⟩
theorem Fr.alloc {S:Nat->Prop}{a w:World}(h:Fr S a w) (o:Obj):Fr S a (w.alloc o):=
 h.trans ⟨rfl,rfl,rfl,by simp,fun k hk _=>Below.heap_alloc _ _ _ hk⟩
theorem Fr.drew {S:Nat->Prop}{a w:World}(h:Fr S a w):Fr S a w.drew:=⟨h.os,h.tape,h.output,h.size,h.block⟩
theorem Fr.setCell {S:Nat->Prop}{a w:World}(h:Fr S a w){p:Addr}(hp:p.block < a.heap.size->S p.block) (u:Value):Fr S a (w.setCell p u):=
 ⟨h.os,h.tape,h.output,by simpa [World.setCell] using h.size,fun k hk hs=>by
  rw [Below.heap_setCell _ _ _ _ (fun e=>hs (by rw [e];exact hp (by omega)))];exact h.block k hk hs⟩
theorem Fr.cell {S:Nat->Prop}{w w':World}(h:Fr S w w'){p:Addr}(hp:p.block < w.heap.size) (hs:¬ S p.block):w'.cell? p=w.cell? p:=World.cell?_of_block (w:=w) (h.block p.block hp hs)
def rep (n:Nat) (P:List Value):List Value:=(List.replicate n P).flatten
theorem rep_add (n m:Nat) (P:List Value):rep (n+m) P=rep n P ++ rep m P:=by simp [rep,<- List.replicate_append_replicate]
theorem length_rep (n:Nat) (P:List Value):(rep n P).length=n*P.length:=by
 induction n with
 | zero=>simp [rep]
 | succ n ih=>rw [rep_add,List.length_append,ih,Nat.succ_mul];simp [rep]
theorem rep_get (n:Nat) (P:List Value) (k j:Nat) (hk:k < n) (hj:j < P.length):(rep n P)[k*P.length+j]? = P[j]?:=by
 induction n generalizing k with
 | zero=>omega
 | succ n ih=>
  rw [Nat.add_comm n 1,rep_add]
  have e:rep 1 P=P:=by simp [rep]
  rw [e]
  rcases k with _ | k
  ·simp only [Nat.zero_mul,Nat.zero_add];exact List.getElem?_append_left hj
  ·rw [List.getElem?_append_right (by rw [Nat.succ_mul];omega)]
   rw [show (k+1)*P.length+j-P.length=k*P.length+j by rw [Nat.succ_mul];omega]
   exact ih k (by omega)
theorem owns_slice {w:World}{base:Nat}{e:TypeId}{size:Nat}{v:Value}{n:Nat}{xs:List Value}(h:w.ownsRow base e size v n xs):∃ a c,v=.slice a n c:=by
 rcases h.2 with ⟨rfl,rfl⟩ | ⟨g,cap,cur,rfl,_⟩
 ·exact ⟨_,_,rfl⟩
 ·exact ⟨_,_,rfl⟩
section
variable {P:Program}(w:World)
end
def setAt:List Value->Nat->List Value->List Value
 | ys,_,[]=>ys
 | ys,o,v :: r=>setAt (ys.set o v) (o+1) r
theorem length_setAt:∀ (vs:List Value) (ys:List Value) (o:Nat),(setAt ys o vs).length=ys.length
 | [],_,_=>rfl
 | v :: r,ys,o=>by rw [setAt,length_setAt r];simp
theorem setAt_eq:∀ (vs:List Value) (ys:List Value) (o:Nat),o+vs.length<=ys.length->setAt ys o vs=ys.take o ++ vs ++ ys.drop (o+vs.length)
 | [],ys,o,_=>by simp [setAt]
 | v :: r,ys,o,h=>by
  simp only [List.length_cons] at h
  rw [setAt,setAt_eq r _ _ (by simp;omega)]
  rw [List.drop_set_of_lt (by omega),List.length_cons]
  have e:(ys.set o v).take (o+1)=ys.take o ++ [v]:=by
   rw [List.take_succ_eq_append_getElem (by simp;omega),List.take_set_of_le (Nat.le_refl _)]
   simp
  rw [e,show o+1+r.length=o+(r.length+1) by omega]
  simp
theorem setCells_owns {base:Nat}{e:TypeId}{size g n cap:Nat}:∀ (vs:List Value) (o:Nat) (w:World) (ys:List Value),w.ownsRow base e size (.slice (some ⟨g,0,none⟩) n cap) n ys ->
  (w.setCells g o vs).ownsRow base e size (.slice (some ⟨g,0,none⟩) n cap) n (setAt ys o vs)/\w.grownBy (w.setCells g o vs) (some g)
 | [],_,w,_,h=>⟨h,rfl,rfl,rfl,Nat.le_refl _,fun _ _ _=>rfl⟩
 | v :: r,o,w,ys,h=>by
  have h1:=h.stored o v
  have h2:=setCells_owns r (o+1) _ _ h1.1
  refine ⟨h2.1,?_⟩
  have a:=h1.2
  have b:=h2.2
  exact ⟨b.os.trans a.os,b.tape.trans a.tape,b.output.trans a.output,Nat.le_trans a.size b.size,fun k hk hne=>(b.block k (Nat.lt_of_lt_of_le hk a.size) hne).trans (a.block k hk hne)⟩
theorem grown_setRow (w:World) (g:Nat) (cs:Array Value):w.grownBy (w.setRow g cs) (some g):=
 ⟨rfl,rfl,rfl,by simp,fun k _ hk=>setRow_other w g k _ (fun e=>hk (by simp [e]))⟩
theorem Fr.setRow {S:Nat->Prop}{a w:World}(h:Fr S a w){g:Nat}(hp:g < a.heap.size->S g) (cs:Array Value):Fr S a (w.setRow g cs):=
 ⟨h.os,h.tape,h.output,by simpa using h.size,fun k hk hs=>by
  rw [setRow_other w g k _ (fun e=>hs (by rw [e];exact hp (by omega)))];exact h.block k hk hs⟩
theorem cell_news (w:World) (cs:Array Value) (t:TypeId):∀ j u,cs.toList[j]? = some u->(w.alloc (.cells cs t)).cell? ((⟨w.heap.size,0,none⟩:Addr).add j)=some u:=by
 intro j u hj
 rw [Addr.add_mid,cell_of_row _ _ _ cs t (0,0) (heap_alloc_new w _)]
 simpa using hj
theorem size_alloc (w:World) (o:Obj):(w.alloc o).heap.size=w.heap.size+1:=by simp
theorem cell_news2 (w:World) (A:Obj) (cs:Array Value) (t:TypeId):∀ j u,cs.toList[j]? = some u->((w.alloc A).alloc (.cells cs t)).cell? ((⟨w.heap.size+1,0,none⟩:Addr).add j)=some u:=by
 have h:=cell_news (w.alloc A) cs t
 rw [size_alloc] at h
 exact h
theorem owns_there {base:Nat}{e:TypeId}{size g n cap:Nat}{w:World}{ys:List Value}(h:w.ownsRow base e size (.slice (some ⟨g,0,none⟩) n cap) n ys) (o m:Nat) (hm:o+m<=n*size):w.there g o m:=fun j hj=>by
 refine ⟨?_,h.frozenAt _⟩
 rw [h.cellAt _ (by omega),List.getElem?_eq_getElem (by have:=h.1;omega)]
 rfl
open Go.RowKit
def pickI (c n:Int):Int:=(if c < 0 then -(c+1) else c) % n
def inI (n lo hi:Int):Bool:=decide (lo<=n/\n<=hi)
open Go.RowKit
theorem Tryz.infoN2:(Tryz.prog.info? 2).map (fun i=>(i.zero,i.size,i.bytes))=some (some (.int .i64 0),1,8):=by kernel_rfl
theorem Tryz.infoN55:(Tryz.prog.info? 55).map (fun i=>(i.zero,i.size,i.bytes))=some (some (.agg #[.int .i64 0,.int .i64 0,.int .i64 0,.int .i64 0]),4,32):=by kernel_rfl
theorem Tryz.infoN67:(Tryz.prog.info? 67).map (fun i=>(i.zero,i.size,i.bytes))=some (some (.agg #[.int .i64 0,.int .i64 0,.int .i64 0,.int .i64 0]),4,32):=by kernel_rfl
open Go.RowKit
theorem flatten_len {s:Nat}:∀ (rows:List (List Value)),(∀ r∈rows,r.length=s)->rows.flatten.length=rows.length*s
 | [],_=>by simp
 | r :: rs,h=>by
  rw [List.flatten_cons,List.length_append,h r (by simp),flatten_len rs (fun x hx=>h x (by simp [hx])),List.length_cons,Nat.succ_mul];omega
theorem flatten_get {s:Nat}:∀ (rows:List (List Value)) (i j:Nat),(∀ r∈rows,r.length=s)->(hi:i < rows.length)->j < s->rows.flatten[i*s+j]? = rows[i][j]?
 | [],i,j,_,hi,_=>by simp at hi
 | r :: rs,0,j,h,_,hj=>by
  have e:r.length=s:=h r (by simp)
  rw [List.flatten_cons,List.getElem?_append_left (by omega)];simp
 | r :: rs,i+1,j,h,hi,hj=>by
  have e:r.length=s:=h r (by simp)
  rw [List.flatten_cons,List.getElem?_append_right (by rw [e,Nat.succ_mul];omega),e,show (i+1)*s+j-s=i*s+j by rw [Nat.succ_mul];omega,
   flatten_get rs i j (fun x hx=>h x (by simp [hx])) (by simpa using hi) hj]
  simp
theorem flatten_set {s:Nat}:∀ (rows:List (List Value)) (i j:Nat) (u:Value),(∀ r∈rows,r.length=s)->(hi:i < rows.length)->j < s ->
  rows.flatten.set (i*s+j) u=(rows.set i (rows[i].set j u)).flatten
 | [],i,j,_,_,hi,_=>by simp at hi
 | r :: rs,0,j,u,h,_,hj=>by
  have e:r.length=s:=h r (by simp)
  rw [List.flatten_cons,Nat.zero_mul,Nat.zero_add,List.set_append_left _ _ (by omega)];simp
 | r :: rs,i+1,j,u,h,hi,hj=>by
  have e:r.length=s:=h r (by simp)
  rw [List.flatten_cons,List.set_append_right _ _ (by rw [e,Nat.succ_mul];omega),e,show (i+1)*s+j-s=i*s+j by rw [Nat.succ_mul];omega,
   flatten_set rs i j u (fun x hx=>h x (by simp [hx])) (by simpa using hi) hj]
  simp
structure Sl (w:World) (e:TypeId) (size:Nat) (v:Value) (rows:List (List Value)):Prop where
 own:w.ownsRow 0 e size v rows.length rows.flatten
 len:∀ r∈rows,r.length=size
theorem Sl.nil (w:World) (e:TypeId) (size:Nat):Sl w e size (.slice none 0 0) []:=⟨World.ownsRow_nil w 0 e size,by simp⟩
theorem Sl.slice {w:World}{e:TypeId}{size:Nat}{v:Value}{rows:List (List Value)}(h:Sl w e size v rows):∃ a c,v=.slice a rows.length c:=owns_slice h.own
theorem Sl.form {w:World}{e:TypeId}{size:Nat}{v:Value}{rows:List (List Value)}(h:Sl w e size v rows) :
  (v=.slice none 0 0/\rows=[])\/∃ g cap,v=.slice (some ⟨g,0,none⟩) rows.length cap/\rows.length<=cap/\cap<=maxLen/\g < w.heap.size:=by
 rcases h.own.2 with ⟨rfl,hn⟩ | ⟨g,cap,cur,rfl,_,hg,h1,h2,_⟩
 ·exact .inl ⟨rfl,List.eq_nil_of_length_eq_zero hn⟩
 ·exact .inr ⟨g,cap,rfl,h1,h2,(Array.getElem?_eq_some_iff.1 hg).1⟩
theorem Sl.is_some {w:World}{e:TypeId}{size:Nat}{a:Option Addr}{n c:Nat}{rows:List (List Value)}(h:Sl w e size (.slice a n c) rows) (hp:0 < n):∃ g,a=some ⟨g,0,none⟩/\n=rows.length:=by
 rcases h.form with ⟨h1,h2⟩ | ⟨g,cap,h1,_⟩
 ·simp at h1;omega
 ·simp at h1;exact ⟨g,h1.1,h1.2.1⟩
theorem Sl.lt {w:World}{e:TypeId}{size:Nat}{v:Value}{rows:List (List Value)}(h:Sl w e size v rows){k:Nat}(hk:v.ownBlock=some k):k < w.heap.size:=(h.own.lt k hk).2
theorem Sl.kept {w w':World}{e:TypeId}{size:Nat}{v:Value}{rows:List (List Value)}(h:Sl w e size v rows){S:Nat->Prop}(hf:Fr S w w') (hs:∀ k,v.ownBlock=some k->¬ S k):Sl w' e size v rows:=by
 refine ⟨⟨h.own.1,?_⟩,h.len⟩
 rcases h.own.2 with h2 | ⟨g,cap,cur,rfl,hb,hg,r⟩
 ·exact .inl h2
 ·exact .inr ⟨g,cap,cur,rfl,hb,by rw [hf.block g (Array.getElem?_eq_some_iff.1 hg).1 (hs g rfl)];exact hg,r⟩
theorem Sl.alloc {w:World}{e:TypeId}{size:Nat}{v:Value}{rows:List (List Value)}(h:Sl w e size v rows) (o:Obj):Sl (w.alloc o) e size v rows:=⟨h.own.alloc o,h.len⟩
theorem owns_drew {w:World}{base:Nat}{e:TypeId}{size:Nat}{v:Value}{n:Nat}{xs:List Value}(h:w.ownsRow base e size v n xs):w.drew.ownsRow base e size v n xs:=h
theorem Sl.drew {w:World}{e:TypeId}{size:Nat}{v:Value}{rows:List (List Value)}(h:Sl w e size v rows):Sl w.drew e size v rows:=⟨h.own,h.len⟩
theorem Sl.below {w w':World}{e:TypeId}{size:Nat}{v:Value}{rows:List (List Value)}(h:Sl w e size v rows) (hb:Below w.heap.size w w'):Sl w' e size v rows:=h.kept (Fr.of_below hb (fun _=>False)) (fun _ _ h=>h)
section
variable {w:World}{e:TypeId}{size g n cap:Nat}{rows:List (List Value)}
theorem Sl.cell (h:Sl w e size (.slice (some ⟨g,0,none⟩) n cap) rows) (i j:Nat) (hi:i < rows.length) (hj:j < size):w.cell? ⟨g,i*size+j,none⟩=rows[i][j]?:=by
 have hn:n=rows.length:=by
  rcases h.own.2 with ⟨h1,_⟩ | ⟨g',cap',cur,h1,_⟩
  ·simp at h1
  ·simp at h1;exact h1.2.1
 subst hn
 rw [h.own.cellAt (i*size+j) (by have:=Nat.mul_le_mul_right size (show i+1<=rows.length from hi);rw [Nat.succ_mul] at this;omega)]
 exact flatten_get rows i j h.len hi hj
theorem Sl.range (h:Sl w e size (.slice (some ⟨g,0,none⟩) n cap) rows) (i:Nat) (hi:i < rows.length):w.rangeAt g (i*size) rows[i]:=fun j v hv=>by
 have hl:=h.len rows[i] (List.getElem_mem hi)
 have hj:j < size:=by have:=(List.getElem?_eq_some_iff.1 hv).1;omega
 rw [h.cell i j hi hj];exact hv
theorem Sl.fro (h:Sl w e size (.slice (some ⟨g,0,none⟩) n cap) rows) (j:Nat):w.frozen? ⟨g,j,none⟩=false:=by
 rcases h.own.2 with ⟨h',_⟩ | ⟨g',cap',cur,h',_,hg,_⟩
 ·simp at h'
 ·simp only [Value.slice.injEq,Option.some.injEq,Addr.mk.injEq,and_true] at h'
  obtain ⟨rfl,_⟩:=h'
  exact frozen_of_row w g j cur e hg
theorem Sl.n_eq (h:Sl w e size (.slice (some ⟨g,0,none⟩) n cap) rows):n=rows.length:=by
 rcases h.own.2 with ⟨h1,_⟩ | ⟨g',cap',cur,h1,_⟩
 ·simp at h1
 ·simp at h1;exact h1.2.1
theorem Sl.set (h:Sl w e size (.slice (some ⟨g,0,none⟩) n cap) rows) (i j:Nat) (u:Value) (hi:i < rows.length) (hj:j < size) :
  Sl (w.setCell ⟨g,i*size+j,none⟩ u) e size (.slice (some ⟨g,0,none⟩) n cap) (rows.set i (rows[i].set j u)):=by
 have hn:=h.n_eq
 subst hn
 have h1:=(h.own.stored (i*size+j) u).1
 rw [flatten_set rows i j u h.len hi hj] at h1
 refine ⟨by simpa using h1,?_⟩
 intro r hr
 rcases List.mem_or_eq_of_mem_set hr with hr | rfl
 ·exact h.len r hr
 ·simp [h.len rows[i] (List.getElem_mem hi)]
end
section
variable {P:Program}(w:World)
structure Grew (e:TypeId) (size:Nat) (v:Value) (w:World) (v':Value) (rows:List (List Value)) (w':World):Prop where
 sl:Sl w' e size v' rows
 by_:w.grownBy w' v.ownBlock
 at_:∀ k,v'.ownBlock=some k->w.heap.size<=k\/v.ownBlock=some k
theorem Grew.old {e:TypeId}{size:Nat}{v:Value}{w:World}{v':Value}{rows:List (List Value)}{w':World}(h:Grew e size v w v' rows w'){g:Nat}(hg:g < w.heap.size) (hv:v.ownBlock≠some g):w'.heap[g]? = w.heap[g]?:=
 h.by_.block g hg (fun x=>hv x.symm)
theorem Grew.fr {e:TypeId}{size:Nat}{v:Value}{a w:World}{v':Value}{rows:List (List Value)}{w':World}(h:Grew e size v w v' rows w'){S:Nat->Prop}(hf:Fr S a w) (hs:∀ k,v.ownBlock=some k->k < a.heap.size->S k):Fr S a w':=
 ⟨h.by_.os.trans hf.os,h.by_.tape.trans hf.tape,h.by_.output.trans hf.output,Nat.le_trans hf.size h.by_.size,fun k hk hn=>
  (h.by_.block k (Nat.lt_of_lt_of_le hk hf.size) (fun x=>hn (hs k x.symm hk))).trans (hf.block k hk hn)⟩
theorem run_append_sl (t ty e:TypeId) (i:TypeInfo) (z:Value) (size bytes:Nat) (ht:P.underlying t=some (.slice e)) (hi:P.info? e=some i) (hz:i.zero=some z)
  (hsize:i.size=size) (hby:i.bytes=bytes) (hzs:z.cells.size=size) (hsz:0 < size)
  (v:Value) (rows:List (List Value)) (hown:Sl w e size v rows)
  (a:Addr) (m c:Nat) (news:List (List Value)) (hm:news.length=m) (hm0:0 < m) (hl:∀ r∈news,r.length=size) (hnews:∀ j u,news.flatten[j]? = some u->w.cell? (a.add j)=some u) (h1:∀ u∈news.flatten,u.oneCell'=true)
  (h63:rows.length+m<=maxLen) (hbytes:(rows.length+m)*bytes<=140737488355328) :
  ∃ a' c' w',(Builtin.append_ #[t,t] ty #[v,.slice (some a) m c]).run P w=.ok (.slice a' (rows.length+m) c') w'/\Grew e size v w (.slice a' (rows.length+m) c') (rows ++ news) w':=by
 subst hby
 subst hm
 have hfl:news.flatten.length=news.length*size:=flatten_len news hl
 obtain ⟨v',w',hr,hO,hG,_⟩:=run_append_own (P:=P) w 0 t ty e i z size i.bytes ht hi hz hsize rfl hzs hsz v rows.length rows.flatten hown.own a news.length c news.flatten hfl hnews h1 h63 hbytes (Nat.zero_le _)
 obtain ⟨a',c',rfl⟩:=owns_slice hO
 refine ⟨a',c',w',hr,⟨⟨by simpa using hO,?_⟩,hG,?_⟩⟩
 ·intro r hr
  rcases List.mem_append.1 hr with h | h
  ·exact hown.len r h
  ·exact hl r h
 ·rcases hown.own.2 with ⟨rfl,hn0⟩ | ⟨g,cap,cur,rfl,hbg,hg,hnc,hcm,hcs,htake⟩
  ·have hr2:=run_append_nil (P:=P) w t ty e i z ht hi hz a news.length c news.flatten (by rw [hfl,hsize]) hnews hm0 (by simp only [maxLen] at h63;omega) (by rw [hn0,Nat.zero_add] at hbytes;omega)
   rw [hr2] at hr
   simp only [Result.ok.injEq,Value.slice.injEq] at hr
   obtain ⟨⟨rfl,_⟩,_⟩:=hr
   intro k hk
   simp [Value.ownBlock] at hk;left;omega
  ·by_cases hroom:rows.length+news.length<=cap
   ·have hfit:rows.length*i.size+news.flatten.length<=cur.size:=by rw [hfl,hcs,hsize,<- Nat.add_mul];exact Nat.mul_le_mul_right _ hroom
    have hr2:=run_append_room (P:=P) w t ty e i ht hi g rows.length cap cur hg a news.length c news.flatten (by rw [hfl,hsize]) hnews h1 hroom hfit
    rw [hr2] at hr
    simp only [Result.ok.injEq,Value.slice.injEq] at hr
    obtain ⟨⟨rfl,_⟩,_⟩:=hr
    intro k hk
    simp [Value.ownBlock] at hk ⊢;right;omega
   ·have holds:∀ j u,rows.flatten[j]? = some u->w.cell? ((⟨g,0,none⟩:Addr).add j)=some u:=hown.own.cells (g:=g) rfl
    have hr2:=run_append_grow (P:=P) w t ty e i z ht hi hz ⟨g,0,none⟩ rows.length cap rows.flatten (by rw [flatten_len rows hown.len,hsize]) holds a news.length c news.flatten (by rw [hfl,hsize]) hnews (by omega) (by simp only [maxLen] at h63;omega) (growslice_fits (by omega) hbytes)
    rw [hr2] at hr
    simp only [Result.ok.injEq,Value.slice.injEq] at hr
    obtain ⟨⟨rfl,_⟩,_⟩:=hr
    intro k hk
    simp [Value.ownBlock] at hk;left;omega
theorem wpList_append_sl {ops:Array Oper}{rest:List Oper}{o:Oper}{ac:Act}{Q:Exit->Act->World->Prop}(hgd:o.guard=none) (s x:Operand) (t:TypeId)
  (ho:o.op=.call { callee:=.builtin .append,args:=#[s,x],argTypes:=#[t,t] })
  (e:TypeId) (i:TypeInfo) (z:Value) (size bytes:Nat) (ht:P.underlying t=some (.slice e)) (hi:P.info? e=some i) (hz:i.zero=some z)
  (hsize:i.size=size) (hby:i.bytes=bytes) (hzs:z.cells.size=size) (hsz:0 < size)
  (v:Value) (rows:List (List Value)) (hs:ac.eval s=v) (hown:Sl w e size v rows)
  (a:Addr) (m c:Nat) (news:List (List Value)) (hx:ac.eval x=.slice (some a) m c) (hm:news.length=m) (hm0:0 < m) (hl:∀ r∈news,r.length=size) (hnews:∀ j u,news.flatten[j]? = some u->w.cell? (a.add j)=some u) (h1:∀ u∈news.flatten,u.oneCell'=true)
  (h63:rows.length+m<=maxLen) (hbytes:(rows.length+m)*bytes<=140737488355328)
  (h:∀ a' c' w',Grew e size v w (.slice a' (rows.length+m) c') (rows ++ news) w'->wpList P ops Q rest (ac.put o.dst (.slice a' (rows.length+m) c')) w'):wpList P ops Q (o :: rest) ac w:=by
 obtain ⟨a',c',w',hr,hG⟩:=run_append_sl (P:=P) w t o.type e i z size bytes ht hi hz hsize hby hzs hsz v rows hown a m c news hm hm0 hl hnews h1 h63 hbytes
 refine wpList_plain hgd fun _ hK=>?_
 unfold Oper.wp execOp
 simp only [ho,resolve,invoke,builtin,Sem.run_bind,Sem.run_pure,Result.andThen_ok,List.map_toArray,List.map_cons,List.map_nil,hs,hx,hr]
 exact hK _ _ (h a' c' w' hG)
theorem step_append_sl {ops:Array Oper}{o:Oper}{ac:Act}{K:Act->World->Prop}{Q:Exit->Act->World->Prop}{E:Prop}(hgd:o.guard=none) (s x:Operand) (t:TypeId)
  (ho:o.op=.call { callee:=.builtin .append,args:=#[s,x],argTypes:=#[t,t] })
  (e:TypeId) (i:TypeInfo) (z:Value) (size bytes:Nat) (ht:P.underlying t=some (.slice e)) (hi:P.info? e=some i) (hz:i.zero=some z)
  (hsize:i.size=size) (hby:i.bytes=bytes) (hzs:z.cells.size=size) (hsz:0 < size)
  (v:Value) (rows:List (List Value)) (hs:ac.eval s=v) (hown:Sl w e size v rows)
  (a:Addr) (m c:Nat) (news:List (List Value)) (hx:ac.eval x=.slice (some a) m c) (hm:news.length=m) (hm0:0 < m) (hl:∀ r∈news,r.length=size) (hnews:∀ j u,news.flatten[j]? = some u->w.cell? (a.add j)=some u) (h1:∀ u∈news.flatten,u.oneCell'=true)
  (h63:rows.length+m<=maxLen) (hbytes:(rows.length+m)*bytes<=140737488355328)
  (h:∀ a' c' w',Grew e size v w (.slice a' (rows.length+m) c') (rows ++ news) w'->K (ac.put o.dst (.slice a' (rows.length+m) c')) w') :
  if Region.wanted o (yielded ops ac.tmps)=true then Oper.wp P o ac w K Q else E:=by
 obtain ⟨a',c',w',hr,hG⟩:=run_append_sl (P:=P) w t o.type e i z size bytes ht hi hz hsize hby hzs hsz v rows hown a m c news hm hm0 hl hnews h1 h63 hbytes
 have hw:Region.wanted o (yielded ops ac.tmps)=true:=by simp [Region.wanted,hgd]
 rw [if_pos hw]
 unfold Oper.wp
 simp [execOp,ho,resolve,invoke,builtin,hs,hx,hr,Result.andThen]
 exact h a' c' w' hG
end
theorem set5 {w:World}{g:Nat}{a0 a1 a2 a3 a4 b0 b1 b2 b3 b4:Value}{t:TypeId}(h:w.heap[g]? = some (.cells #[a0,a1,a2,a3,a4] t (0,0))) :
  (((((w.setCell ⟨g,0,none⟩ b0).setCell ⟨g,1,none⟩ b1).setCell ⟨g,2,none⟩ b2).setCell ⟨g,3,none⟩ b3).setCell ⟨g,4,none⟩ b4).heap[g]? = some (.cells #[b0,b1,b2,b3,b4] t (0,0)):=by
 have h0:=heap_setCell_same w g 0 _ t b0 h
 have h1:=heap_setCell_same _ g 1 _ t b1 h0
 have h2:=heap_setCell_same _ g 2 _ t b2 h1
 have h3:=heap_setCell_same _ g 3 _ t b3 h2
 have h4:=heap_setCell_same _ g 4 _ t b4 h3
 exact h4
theorem cells5 {w:World}{g:Nat}{a0 a1 a2 a3 a4:Value}{t:TypeId}(h:w.heap[g]? = some (.cells #[a0,a1,a2,a3,a4] t (0,0))) :
  (w.cell? ⟨g,0,none⟩=some a0/\w.cell? ⟨g,1,none⟩=some a1/\w.cell? ⟨g,2,none⟩=some a2/\w.cell? ⟨g,3,none⟩=some a3/\w.cell? ⟨g,4,none⟩=some a4)/\(∀ j,w.frozen? ⟨g,j,none⟩=false):=
 ⟨⟨(cell_of_row w g 0 _ _ _ h).trans rfl,(cell_of_row w g 1 _ _ _ h).trans rfl,(cell_of_row w g 2 _ _ _ h).trans rfl,(cell_of_row w g 3 _ _ _ h).trans rfl,(cell_of_row w g 4 _ _ _ h).trans rfl⟩,fun j=>frozen_of_row w g j _ _ h⟩
open Go.RowKit
open Go.RowKit
theorem Sl.row {w:World}{e:TypeId}{size g n cap:Nat}{rows:List (List Value)}(h:Sl w e size (.slice (some ⟨g,0,none⟩) n cap) rows){i:Nat}{r:List Value}(hr:rows[i]? = some r):w.rangeAt g (i*size) r:=by
 obtain ⟨hi,e⟩:=List.getElem?_eq_some_iff.1 hr
 rw [<- e];exact h.range i hi
open Go.RowKit
structure Inl (w:World) (size:Nat) (v:Value) (rows:List (List Value)):Prop where
 len:∀ r∈rows,r.length=size
 one:∀ r∈rows,∀ u∈r,u.oneCell'=true
 form:∃ a c,v=.slice a rows.length c/\rows.length<=maxLen/\(rows=[]\/∃ b off,a=some ⟨b,off,none⟩/\w.rangeAt b off rows.flatten)
theorem Inl.slice {w:World}{size:Nat}{v:Value}{rows:List (List Value)}(h:Inl w size v rows):∃ a c,v=.slice a rows.length c:=by
 obtain ⟨a,c,h,_⟩:=h.form;exact ⟨a,c,h⟩
theorem rangeAt_cells {w w':World}{b off:Nat}{cs:List Value}(h:w.rangeAt b off cs) (he:w'.heap[b]? = w.heap[b]?):w'.rangeAt b off cs:=fun j v hv=>by
 rw [World.cell?_of_block (w:=w) (a:=⟨b,off+j,none⟩) he];exact h j v hv
def inBlock:Value->Option Nat
 | .slice (some a) (_+1) _=>some a.block
 | _=>none
theorem Inl.kept {w w':World}{size:Nat}{v:Value}{rows:List (List Value)}(h:Inl w size v rows) (hs:0 < size){S:Nat->Prop}(hf:Fr S w w') (hn:∀ k,inBlock v=some k->¬ S k):Inl w' size v rows:=by
 obtain ⟨a,c,rfl,hm,hr⟩:=h.form
 refine ⟨h.len,h.one,a,c,rfl,hm,?_⟩
 rcases hr with rfl | ⟨b,off,rfl,hr⟩
 ·exact .inl rfl
 ·cases rows with
  | nil=>exact .inl rfl
  | cons r rs=>
   refine .inr ⟨b,off,rfl,?_⟩
   have hlr:=h.len r (by simp)
   have hlt:b < w.heap.size:=by
    cases r with
    | nil=>simp at hlr;omega
    | cons u t=>exact block_lt_of_cell (a:=⟨b,off+0,none⟩) (hr 0 u (by simp))
   exact rangeAt_cells hr (hf.block b hlt (hn b rfl))
theorem Inl.below {w w':World}{size:Nat}{v:Value}{rows:List (List Value)}(h:Inl w size v rows) (hs:0 < size) (hb:Below w.heap.size w w'):Inl w' size v rows:=
 h.kept hs (Fr.of_below hb (fun _=>False)) (fun _ _ h=>h)
theorem Inl.alloc {w:World}{size:Nat}{v:Value}{rows:List (List Value)}(h:Inl w size v rows) (hs:0 < size) (o:Obj):Inl (w.alloc o) size v rows:=
 h.kept hs ((Fr.refl (fun _=>False) w).alloc o) (fun _ _ h=>h)
theorem Inl.drew {w:World}{size:Nat}{v:Value}{rows:List (List Value)}(h:Inl w size v rows):Inl w.drew size v rows:=⟨h.len,h.one,h.form⟩
theorem Inl.row {w:World}{size:Nat}{a:Option Addr}{n c:Nat}{rows:List (List Value)}(h:Inl w size (.slice a n c) rows){k:Nat}{r:List Value}(hk:rows[k]? = some r):∃ b off,a=some ⟨b,off,none⟩/\w.rangeAt b (off+k*size) r:=by
 obtain ⟨a',c',e,hm,hr⟩:=h.form
 simp only [Value.slice.injEq] at e
 obtain ⟨rfl,rfl,rfl⟩:=e
 obtain ⟨hi,e⟩:=List.getElem?_eq_some_iff.1 hk
 rcases hr with rfl | ⟨b,off,rfl,hr⟩
 ·simp at hi
 ·refine ⟨b,off,rfl,fun j v hv=>?_⟩
  have hl:=h.len r (by rw [<- e];exact List.getElem_mem hi)
  have hj:j < size:=by have:=(List.getElem?_eq_some_iff.1 hv).1;omega
  have:=hr (k*size+j) v (by rw [flatten_get rows k j h.len hi hj,e];exact hv)
  rwa [<- Nat.add_assoc] at this
theorem Sl.there {w:World}{e:TypeId}{size g n cap:Nat}{rows:List (List Value)}(h:Sl w e size (.slice (some ⟨g,0,none⟩) n cap) rows) (i:Nat) (hi:i < rows.length):w.there g (i*size) size:=by
 have hn:=h.n_eq
 subst hn
 exact owns_there h.own _ _ (by have:=Nat.mul_le_mul_right size (show i+1<=rows.length from hi);rw [Nat.succ_mul] at this;omega)
section
variable {P:Program}(w:World)
end
section
variable {P:Program}(w:World)
end
theorem wpList_store_new {P:Program}{ops:Array Oper}{rest:List Oper}{o:Oper}{a:Act}{Q:Exit->Act->World->Prop}(hgd:o.guard=none) (ty:TypeId) (x y:Operand) (ho:o.op=.store ty x y)
  (w0:World) (old cells:Array Value) (t:TypeId) (hx:a.eval x=.pointer (some ⟨w0.heap.size,0,none⟩)) (hy:a.eval y=.agg cells) (hi:(P.info? ty).map (·.size)=some cells.size) (hold:old.size=cells.size) (h1:cells.all (·.oneCell')=true)
  (h:wpList P ops Q rest (a.put o.dst undef) (w0.alloc (.cells cells t))):wpList P ops Q (o :: rest) a (w0.alloc (.cells old t)):=by
 refine wpList_store_row hgd ty x y ho w0.heap.size cells hx hy t old (heap_alloc_new w0 _) hi hold h1 ?_
 rw [World.setRow_alloc_new]
 exact h
open Go.RowKit
theorem Fr.join {S T:Nat->Prop}{a b c:World}(h:Fr S a b) (k:Fr T b c):Fr (fun x=>S x\/T x) a c:=
 (h.mono (fun _ _ h=>.inl h)).trans (k.mono (fun _ _ h=>.inr h))
theorem Inl.lt {w:World}{size:Nat}{v:Value}{rows:List (List Value)}(h:Inl w size v rows) (hs:0 < size) (hr:rows≠[]){k:Nat}(hk:inBlock v=some k):k < w.heap.size:=by
 obtain ⟨a,c,rfl,hm,hr'⟩:=h.form
 rcases hr' with rfl | ⟨b,off,rfl,hra⟩
 ·exact absurd rfl hr
 ·cases rows with
  | nil=>exact absurd rfl hr
  | cons r rs=>
   simp only [List.length_cons,inBlock,Option.some.injEq] at hk
   subst hk
   have hlr:=h.len r (by simp)
   cases r with
   | nil=>simp at hlr;omega
   | cons u t=>exact block_lt_of_cell (a:=⟨b,off+0,none⟩) (hra 0 u (by simp))
open Go.RowKit
theorem Tryz.infoN34:(Tryz.prog.info? 34).map (fun i=>(i.zero,i.size,i.bytes))=some (some (.agg #[.int .i64 0,.int .i64 0]),2,16):=by kernel_rfl
theorem madeCells_rep (z:Array Value) (n:Nat) (hz:0 < z.size):(madeCells z (n*z.size)).toList=rep n z.toList:=by
 apply List.ext_getElem?
 intro j
 by_cases hj:j < n*z.size
 ·have hq:j / z.size < n:=Nat.div_lt_of_lt_mul (by rw [Nat.mul_comm];exact hj)
  have hm:j % z.size < z.size:=Nat.mod_lt _ hz
  have e:j=j / z.size*z.toList.length+j % z.size:=by rw [Array.length_toList,Nat.mul_comm];exact (Nat.div_add_mod j z.size).symm
  have h2:=rep_get n z.toList (j / z.size) (j % z.size) hq (by simpa using hm)
  rw [<- e] at h2
  rw [h2]
  simp [madeCells,hj,hm,getElem!_pos]
 ·rw [List.getElem?_eq_none (by simp [size_madeCells];omega),List.getElem?_eq_none (by rw [length_rep,Array.length_toList];omega)]
theorem made_sl {w:World}{g:Nat}{z:Array Value}{n size:Nat}{e:TypeId}(hz:z.size=size) (h0:0 < size) (hn:n<=maxLen) (h:w.heap[g]? = some (.cells (madeCells z (n*size)) e (0,0))) :
  Sl w e size (.slice (some ⟨g,0,none⟩) n n) (List.replicate n z.toList):=by
 subst hz
 refine ⟨?_,fun r hr=>by rw [(List.mem_replicate.1 hr).2];simp⟩
 rw [List.length_replicate]
 have e1:(List.replicate n z.toList).flatten=(madeCells z (n*z.size)).toList:=by rw [madeCells_rep z n h0];rfl
 rw [e1]
 exact ⟨by simp [size_madeCells],.inr ⟨g,n,_,rfl,Nat.zero_le _,h,Nat.le_refl _,hn,size_madeCells _ _,List.take_of_length_le (by simp [size_madeCells])⟩⟩
def tRow (p:Int×Int):List Value:=[.int .i64 p.1,.int .i64 p.2]
def qRow (p:Int×Int×Int×Int):List Value:=[.int .i64 p.1,.int .i64 p.2.1,.int .i64 p.2.2.1,.int .i64 p.2.2.2]
theorem heap_push (w:World) (o:Obj):(w.alloc o).heap=w.heap.push o:=rfl
open Go.RowKit
def okT (sp:Int) (p:Int×Int):Prop:=0<=p.1/\p.1<=sp-1/\0<=p.2/\p.2<=3
def okQ (sp h:Int) (p:Int×Int×Int×Int):Prop:=0<=p.1/\p.1<=sp-1/\0<=p.2.1/\p.2.1<=5/\0<=p.2.2.1/\p.2.2.1<=h/\1<=p.2.2.2/\p.2.2.2<=3
def Apart (L:List (Int×Int×Int×Int)):Prop:=∀ (i k:Nat) (p q:Int×Int×Int×Int),k < i->L[i]? = some p->L[k]? = some q->¬ (q.1=p.1/\q.2.1=p.2.1)
def Fits (sp:Int) (T:List (Int×Int)) (Q L:List (Int×Int×Int×Int)):Prop:=
 (1<=sp/\sp<=3)/\(1<=T.length/\T.length<=6)/\(∀ (i:Nat) p,T[i]? = some p->okT sp p)/\(∀ (i:Nat) p,Q[i]? = some p->okQ sp ((T.length:Int)-1) p)/\Apart Q/\(∀ (i:Nat) p,L[i]? = some p->okQ sp 7 p)/\Apart L
theorem inI_true {n lo hi:Int}:inI n lo hi=true↔lo<=n/\n<=hi:=by simp [inI]
open Go.RowKit
def kc (vt vp vl:Value) (sp:Int) (fr:Nat->Int) (cl la:Int):Array Value:=#[vt,.int .i64 sp,vp,vl,.int .i64 (fr 0),.int .i64 (fr 1),.int .i64 (fr 2),.int .i64 (fr 3),.int .i64 (fr 4),.int .i64 (fr 5),.int .i64 (fr 6),.int .i64 (fr 7),.int .i64 (fr 8),.int .i64 (fr 9),.int .i64 (fr 10),.int .i64 (fr 11),.int .i64 (fr 12),.int .i64 (fr 13),.int .i64 (fr 14),.int .i64 (fr 15),.int .i64 (fr 16),.int .i64 (fr 17),.int .i64 (fr 18),.int .i64 (fr 19),.int .i64 (fr 20),.int .i64 (fr 21),.int .i64 (fr 22),.int .i64 (fr 23),.int .i64 (fr 24),.int .i64 (fr 25),.int .i64 (fr 26),.int .i64 (fr 27),.int .i64 (fr 28),.int .i64 (fr 29),.int .i64 (fr 30),.int .i64 (fr 31),.int .i64 cl,.int .i64 (-1),.int .i64 la]
def fr0:Nat->Int:=fun _=>0
structure RK where
 threads:List (Int×Int×Int×Int)
 sp:Int
 passes:List (Int×Int×Int×Int)
 leaves:List (Int×Int×Int×Int)
 fr:Nat->Int
 clock:Int
 last:Int
def born (i:Nat):List (Int×Int)->List (Int×Int×Int×Int)
 | []=>[]
 | p :: r=>(p.1,p.2,i,3) :: born (i+1) r
theorem born_append (i:Nat) (A:List (Int×Int)) (p:Int×Int):born i (A ++ [p])=born i A ++ [(p.1,p.2,((i+A.length:Nat):Int),3)]:=by
 induction A generalizing i with
 | nil=>simp [born]
 | cons a r ih=>
  simp only [List.cons_append,born,ih,List.length_cons]
  rw [show i+1+r.length=i+(r.length+1) by omega]
theorem born_step {T:List (Int×Int)}{k:Nat}{p:Int×Int}(h:T[k]? = some p):born 0 (T.take (k+1))=born 0 (T.take k) ++ [(p.1,p.2,(k:Int),3)]:=by
 obtain ⟨hk,e⟩:=List.getElem?_eq_some_iff.1 h
 rw [List.take_succ_eq_append_getElem hk,born_append,e]
 simp [Nat.min_eq_left (Nat.le_of_lt hk)]
theorem born_length (i:Nat) (T:List (Int×Int)):(born i T).length=T.length:=by
 induction T generalizing i with
 | nil=>rfl
 | cons p r ih=>simp [born,ih]
def RK.new (sp:Int) (T:List (Int×Int)) (Q L:List (Int×Int×Int×Int)):RK:=⟨born 0 T,sp,Q,L,fr0,0,T.length⟩
open Go.RowKit
open Go.RowKit
open Go.RowKit
open Go.RowKit
open Go.RowKit
theorem results_row_tmp {P:Program}{fn:Func}{p q:Tmp}{ty:TypeId}(h:fn.results=#[.cell p ty,.tmp q]) (tmps:Array Value) (w:World) (g:Nat) (t:TypeId) (cs:Array Value) (fr:Nat×Nat) (d:TypeDesc) (r:Value)
  (hp:tmps.getD p undef=.pointer (some ⟨g,0,none⟩)) (hg:w.heap[g]? = some (.cells cs t fr)) (hu:P.underlying ty=some d) (hd:(match d with | .struct _ | .array _ _=>true | _=>false)=true) (hi:(P.info? ty).map (·.size)=some cs.size) (hr:tmps.getD q undef=r) :
  (results fn tmps).run P w=.ok (.tuple #[.agg cs,r]) w:=by
 have hp':tmps[p]?.getD undef=.pointer (some ⟨g,0,none⟩):=by simpa using hp
 have hq':tmps[q]?.getD undef=r:=by simpa using hr
 simp [results,h,hp',hq',asAddr,run_loadVar_row w g t ty cs fr d hg hu hd hi]
open Go.RowKit
def findQ (L:List (Int×Int×Int×Int)) (s n:Int):Option (Int×Int×Int×Int):=L.find? (fun p=>p.1 == s && p.2.1 == n)
def told (L:List (Int×Int×Int×Int)) (s:Int):Nat->List (Int×Int×Int×Int)
 | 0=>[]
 | k+1=>told L s k ++ (findQ L s k).toList
theorem told_le (L:List (Int×Int×Int×Int)) (s:Int):∀ k,(told L s k).length<=k
 | 0=>by simp [told]
 | k+1=>by
  have:=told_le L s k
  simp only [told,List.length_append]
  cases findQ L s k <;> simp <;> omega
open Go.RowKit
theorem new4 (w:World) (A B C D:Obj) :
  ((((w.alloc A).alloc B).alloc C).alloc D).heap[w.heap.size]? = some A/\((((w.alloc A).alloc B).alloc C).alloc D).heap[w.heap.size+1]? = some B /\
  ((((w.alloc A).alloc B).alloc C).alloc D).heap[w.heap.size+1+1]? = some C/\((((w.alloc A).alloc B).alloc C).alloc D).heap[w.heap.size+1+1+1]? = some D:=by
 simp only [heap_push,Array.getElem?_push,Array.size_push]
 refine ⟨?_,?_,?_,?_⟩ <;> (repeat (first | rw [if_pos (by first | trivial | omega)] | rw [if_neg (by omega)]))
theorem inl_lit {w:World}{g size n:Nat}{rows:List (List Value)}{e:TypeId}{cs:Array Value}(hb:w.heap[g]? = some (.cells cs e (0,0))) (hc:cs.toList=rows.flatten) (hn:rows.length=n) (hl:∀ r∈rows,r.length=size) (h1:∀ r∈rows,∀ u∈r,u.oneCell'=true) (hm:n<=maxLen) :
  Inl w size (.slice (some ⟨g,0,none⟩) n n) rows:=by
 subst hn
 refine ⟨hl,h1,some ⟨g,0,none⟩,rows.length,rfl,hm,.inr ⟨g,0,rfl,fun j v hv=>?_⟩⟩
 rw [Nat.zero_add,cell_of_row w g j cs e (0,0) hb,<- hv,<- hc]
 simp
open Go.RowKit
def hasRt (r a:Int):Bool:=r == 3 || r == a
theorem bits_rt {r a:Int}(h:r=1\/r=2\/r=3) (ha:a=1\/a=2):(bits .and .i64 r a == 0)=!hasRt r a:=by
 rcases h with rfl | rfl | rfl <;> rcases ha with rfl | rfl <;> rfl
def frSet (fr:Nat->Int) (j:Nat) (n:Int) (i:Nat):Int:=if i=j then n else fr i
open Go.RowKit
open Go.RowKit
section
variable {P:Program}(w:World)
theorem run_append_any (t ty e:TypeId) (i:TypeInfo) (z:Value) (size bytes:Nat) (ht:P.underlying t=some (.slice e)) (hi:P.info? e=some i) (hz:i.zero=some z)
  (hsize:i.size=size) (hby:i.bytes=bytes) (hzs:z.cells.size=size) (hsz:0 < size) (v:Value) (R:List (List Value)) (hown:Sl w e size v R) (a:Option Addr) (m c:Nat) (S:List (List Value)) (hs:Inl w size (.slice a m c) S)
  (h63:R.length+S.length<=maxLen) (hbytes:(R.length+S.length)*bytes<=140737488355328) :
  ∃ a' c' w',(Builtin.append_ #[t,t] ty #[v,.slice a m c]).run P w=.ok (.slice a' (R.length+S.length) c') w'/\Grew e size v w (.slice a' (R.length+S.length) c') (R ++ S) w':=by
 obtain ⟨a0,c0,ev,hm,hr⟩:=hs.form
 simp only [Value.slice.injEq] at ev
 obtain ⟨rfl,rfl,rfl⟩:=ev
 cases hrows:S with
 | nil=>
  subst hrows
  obtain ⟨av,cv,rfl⟩:=hown.slice
  refine ⟨av,cv,w,?_,⟨by simpa using hown,⟨rfl,rfl,rfl,Nat.le_refl _,fun _ _ _=>rfl⟩,fun k hk=>.inr hk⟩⟩
  rcases hown.form with ⟨e1,e2⟩ | ⟨g,cap,e1,hc,_⟩
  ·simp only [Value.slice.injEq] at e1
   obtain ⟨rfl,e3,rfl⟩:=e1
   cases a <;> simp [Builtin.append_,run_underlying ht,sizeOf,typeInfo,hi,Builtin.lenOf,Builtin.firstCells,loadCells,loadCellsFrom,e2]
  ·simp only [Value.slice.injEq] at e1
   obtain ⟨rfl,_,rfl⟩:=e1
   cases a <;> simp [Builtin.append_,run_underlying ht,sizeOf,typeInfo,hi,Builtin.lenOf,Builtin.firstCells,loadCells,loadCellsFrom,hc,storeCells]
 | cons r rs=>
  rw [<- hrows]
  have hpos:0 < S.length:=by rw [hrows];simp
  rcases hr with hr | ⟨b,off,rfl,hr⟩
  ·rw [hr] at hpos;simp at hpos
  exact run_append_sl (P:=P) w t ty e i z size bytes ht hi hz hsize hby hzs hsz v R hown ⟨b,off,none⟩ S.length c S rfl hpos hs.len
    (fun j u hu=>by rw [Addr.add_mid];exact hr j u hu) (fun u hu=>by obtain ⟨x,hx,hux⟩:=List.mem_flatten.1 hu;exact hs.one x hx u hux) h63 hbytes
theorem wpList_append_any {ops:Array Oper}{rest:List Oper}{o:Oper}{ac:Act}{Q:Exit->Act->World->Prop}(hgd:o.guard=none) (s x:Operand) (t:TypeId)
  (ho:o.op=.call { callee:=.builtin .append,args:=#[s,x],argTypes:=#[t,t] })
  (e:TypeId) (i:TypeInfo) (z:Value) (size bytes:Nat) (ht:P.underlying t=some (.slice e)) (hi:P.info? e=some i) (hz:i.zero=some z)
  (hsize:i.size=size) (hby:i.bytes=bytes) (hzs:z.cells.size=size) (hsz:0 < size)
  (v:Value) (R:List (List Value)) (hv:ac.eval s=v) (hown:Sl w e size v R) (a:Option Addr) (m c:Nat) (S:List (List Value)) (hx:ac.eval x=.slice a m c) (hs:Inl w size (.slice a m c) S)
  (h63:R.length+S.length<=maxLen) (hbytes:(R.length+S.length)*bytes<=140737488355328)
  (h:∀ a' c' w',Grew e size v w (.slice a' (R.length+S.length) c') (R ++ S) w'->wpList P ops Q rest (ac.put o.dst (.slice a' (R.length+S.length) c')) w'):wpList P ops Q (o :: rest) ac w:=by
 obtain ⟨a',c',w',hr,hG⟩:=run_append_any (P:=P) w t o.type e i z size bytes ht hi hz hsize hby hzs hsz v R hown a m c S hs h63 hbytes
 refine wpList_plain hgd fun _ hK=>?_
 unfold Oper.wp execOp
 simp only [ho,resolve,invoke,builtin,Sem.run_bind,Sem.run_pure,Result.andThen_ok,List.map_toArray,List.map_cons,List.map_nil,hv,hx,hr]
 exact hK _ _ (h a' c' w' hG)
end
theorem wpList_append_n {P:Program}(w:World){ops:Array Oper}{rest:List Oper}{o:Oper}{ac:Act}{Q:Exit->Act->World->Prop}(hgd:o.guard=none) (s x:Operand) (t:TypeId)
  (ho:o.op=.call { callee:=.builtin .append,args:=#[s,x],argTypes:=#[t,t] })
  (e:TypeId) (i:TypeInfo) (z:Value) (size bytes:Nat) (ht:P.underlying t=some (.slice e)) (hi:P.info? e=some i) (hz:i.zero=some z)
  (hsize:i.size=size) (hby:i.bytes=bytes) (hzs:z.cells.size=size) (hsz:0 < size)
  (v:Value) (R:List (List Value)) (hv:ac.eval s=v) (hown:Sl w e size v R) (a:Option Addr) (m c:Nat) (S:List (List Value)) (hx:ac.eval x=.slice a m c) (hs:Inl w size (.slice a m c) S)
  (n:Nat) (hn:R.length+S.length=n) (h63:n<=maxLen) (hbytes:n*bytes<=140737488355328)
  (h:∀ a' c' w',Grew e size v w (.slice a' n c') (R ++ S) w'->wpList P ops Q rest (ac.put o.dst (.slice a' n c')) w'):wpList P ops Q (o :: rest) ac w:=by
 subst hn
 exact wpList_append_any w hgd s x t ho e i z size bytes ht hi hz hsize hby hzs hsz v R hv hown a m c S hx hs h63 hbytes h
theorem Sl.part {w:World}{e:TypeId}{size:Nat}{g n c:Nat}{rows:List (List Value)}(h:Sl w e size (.slice (some ⟨g,0,none⟩) n c) rows) (h1:∀ r∈rows,∀ u∈r,u.oneCell'=true) (k m c':Nat) (hm:(rows.drop k).take m=[]\/k+m<=rows.length) (hlen:((rows.drop k).take m).length=m) (hx:rows.length<=maxLen) :
  Inl w size (.slice (some ⟨g,k*size,none⟩) m c') ((rows.drop k).take m):=by
 refine ⟨fun r hr=>h.len r (List.mem_of_mem_drop (List.mem_of_mem_take hr)),fun r hr=>h1 r (List.mem_of_mem_drop (List.mem_of_mem_take hr)),⟨_,c',by rw [hlen],?_,.inr ⟨g,k*size,rfl,?_⟩⟩⟩
 ·rw [hlen];rcases hm with hm | hm
  ·rw [hm] at hlen;simp at hlen;omega
  ·omega
 ·intro j u hu
  have hl:∀ r∈rows,r.length=size:=h.len
  have:=h.own.cells (g:=g) rfl (k*size+j) u ?_
  ·rw [Addr.add_mid,Nat.zero_add] at this;exact this
  ·have e1:rows.flatten=(rows.take k).flatten ++ ((rows.drop k).take m).flatten ++ ((rows.drop k).drop m).flatten:=by
    rw [<- List.flatten_append,<- List.flatten_append,List.append_assoc,List.take_append_drop,List.take_append_drop]
   have e2:j < ((rows.drop k).take m).flatten.length:=(List.getElem?_eq_some_iff.1 hu).1
   by_cases hk:k<=rows.length
   ·have e3:(rows.take k).flatten.length=k*size:=by
     rw [flatten_len _ (fun r hr=>hl r (List.mem_of_mem_take hr))];simp [Nat.min_eq_left hk]
    rw [e1,List.append_assoc,List.getElem?_append_right (by omega),e3,Nat.add_sub_cancel_left,List.getElem?_append_left e2]
    exact hu
   ·rw [List.drop_of_length_le (by omega)] at hu;simp at hu
open Go.RowKit
def outQ (L:List (Int×Int×Int×Int)) (s n:Int):List (Int×Int×Int×Int):=L.filter (fun p=>!(p.1 == s && p.2.1 == n))
open Go.RowKit
theorem apart_iff (L:List (Int×Int×Int×Int)):Apart L↔L.Pairwise (fun q p=>¬ (q.1=p.1/\q.2.1=p.2.1)):=by
 rw [List.pairwise_iff_getElem]
 constructor
 ·intro h i j hi hj hij
  exact h j i _ _ hij (List.getElem?_eq_getElem hj) (List.getElem?_eq_getElem hi)
 ·intro h i k p q hk hp hq
  obtain ⟨hi,rfl⟩:=List.getElem?_eq_some_iff.1 hp
  obtain ⟨hk',rfl⟩:=List.getElem?_eq_some_iff.1 hq
  exact h k i hk' hi hk
theorem outQ_apart {L:List (Int×Int×Int×Int)}(h:Apart L) (s n:Int):Apart (outQ L s n):=by
 rw [apart_iff] at h ⊢
 exact h.filter _
theorem outQ_mem {L:List (Int×Int×Int×Int)}{s n:Int}{p:Int×Int×Int×Int}{i:Nat}(h:(outQ L s n)[i]? = some p):∃ j:Nat,L[j]? = some p:=
 List.getElem?_of_mem (List.mem_filter.1 (List.mem_of_getElem? h)).1
theorem outQ_find (L:List (Int×Int×Int×Int)) (s n s' n':Int):findQ (outQ L s n) s' n'=if s=s'/\n=n' then none else findQ L s' n':=by
 unfold findQ outQ
 rw [List.find?_filter]
 by_cases h:s=s'/\n=n'
 ·rw [if_pos h,List.find?_eq_none]
  intro q _
  obtain ⟨rfl,rfl⟩:=h
  cases (q.1 == s && q.2.1 == n) <;> simp
 ·rw [if_neg h]
  congr 1
  funext q
  by_cases e:q.1=s'/\q.2.1=n'
  ·have:¬ (s'=s/\n'=n):=fun g=>h ⟨g.1.symm,g.2.symm⟩
   rw [e.1,e.2]
   by_cases f:s'=s
   ·have g:¬ n'=n:=fun g=>this ⟨f,g⟩
    simp [g]
   ·simp [f]
  ·have:(q.1 == s' && q.2.1 == n')=false:=by
    rw [Bool.and_eq_false_iff]
    by_cases f:q.1=s'
    ·right;simp;exact fun g=>e ⟨f,g⟩
    ·left;simpa using f
   simp [this]
def putQ:List (Int×Int×Int×Int)->Int->Int->Int->Int->List (Int×Int×Int×Int)
 | [],s,n,t,r=>[(s,n,t,r)]
 | q :: L,s,n,t,r=>if q.1=s/\q.2.1=n then (s,n,t,r) :: L else q :: putQ L s n t r
theorem putQ_mem {L:List (Int×Int×Int×Int)}{s n t r:Int}{p:Int×Int×Int×Int}(h:p∈putQ L s n t r):p=(s,n,t,r)\/p∈L:=by
 induction L with
 | nil=>simp [putQ] at h;exact .inl h
 | cons q L ih=>
  rw [putQ] at h
  split at h
  ·rcases List.mem_cons.1 h with h | h
   ·exact .inl h
   ·exact .inr (List.mem_cons_of_mem _ h)
  ·rcases List.mem_cons.1 h with h | h
   ·exact .inr (by rw [h];exact List.mem_cons_self ..)
   ·rcases ih h with h | h
    ·exact .inl h
    ·exact .inr (List.mem_cons_of_mem _ h)
theorem putQ_apart {L:List (Int×Int×Int×Int)}(h:Apart L) (s n t r:Int):Apart (putQ L s n t r):=by
 rw [apart_iff] at h ⊢
 induction L with
 | nil=>simp [putQ]
 | cons q L ih=>
  rw [List.pairwise_cons] at h
  rw [putQ]
  split
  ·rename_i e
   rw [List.pairwise_cons]
   refine ⟨fun p hp g=>h.1 p hp ⟨e.1.trans g.1,e.2.trans g.2⟩,h.2⟩
  ·rename_i e
   rw [List.pairwise_cons]
   refine ⟨fun p hp=>?_,ih h.2⟩
   rcases putQ_mem hp with rfl | hp
   ·exact e
   ·exact h.1 p hp
theorem eq2_false {a b s n:Int}(h:¬ (a=s/\b=n)):(a == s && b == n)=false:=by
 rw [Bool.and_eq_false_iff]
 by_cases f:a=s
 ·right;simp;exact fun g=>h ⟨f,g⟩
 ·left;simpa using f
theorem putQ_find (L:List (Int×Int×Int×Int)) (s n t r s' n':Int):findQ (putQ L s n t r) s' n'=if s=s'/\n=n' then some (s,n,t,r) else findQ L s' n':=by
 induction L with
 | nil=>
  unfold findQ
  by_cases h:s=s'/\n=n'
  ·rw [if_pos h];simp [putQ,h.1,h.2]
  ·rw [if_neg h]
   simp only [putQ,List.find?_cons,List.find?_nil,eq2_false h]
 | cons q L ih=>
  unfold findQ at ih ⊢
  rw [putQ]
  by_cases e:q.1=s/\q.2.1=n
  ·rw [if_pos e,List.find?_cons,List.find?_cons,e.1,e.2]
   by_cases h:s=s'/\n=n'
   ·rw [if_pos h];simp [h.1,h.2]
   ·rw [if_neg h]
    dsimp only
    rw [eq2_false h]
  ·rw [if_neg e,List.find?_cons,List.find?_cons,ih]
   by_cases h:s=s'/\n=n'
   ·rw [if_pos h,if_pos h,eq2_false (by rw [<- h.1,<- h.2];exact e)]
   ·rw [if_neg h,if_neg h]
open Go.RowKit
open Go.RowKit
open Go.RowKit
structure Th where
 sp:Int
 row:Int
 st:Int
 ord:Int
 left:Int
 dst:Int
 mw:List Int
 item:Int
 rt:Int
 frm:Int
 win:Int
 wait:Int
 lends:Bool
 other:Int
 turn:Int
 time:Int
 code:Int
 who:Int
 ws:List Int
 got:Int
structure Lf where
 sp:Int
 pg:Int
 fr:Int
 rt:Int
 usp:Int
 upg:Int
structure RM where
 threads:List Th
 sp:Int
 passes:List (Int×Int×Int×Int)
 leaves:List Lf
 fr:Nat->Int
 clock:Int
 first:Int
 last:Int
structure Sv where
 a:Option Addr
 n:Nat
 c:Nat
abbrev Sv.v (s:Sv):Value:=.slice s.a s.n s.c
def Sv.nil:Sv:=⟨none,0,0⟩
def lnI (z:Int):List Value:=[.int .i64 z]
theorem set_self {α:Type}{l:List α}{i:Nat}{a:α}(h:l[i]? = some a):l.set i a=l:=by
 apply List.ext_getElem?
 intro j
 rw [List.getElem?_set]
 by_cases e:i=j
 ·subst e
  rw [if_pos rfl,if_pos (List.getElem?_eq_some_iff.1 h).1,h]
 ·rw [if_neg e]
section
variable {w w':World}{y:Nat}{K:RM}{vt vp vl:Value}{sl:List (Sv×Sv)}
end
section
variable {w:World}{y:Nat}{K:RM}{g n c:Nat}{vp vl:Value}{sl:List (Sv×Sv)}
end
section
variable {w:World}{y:Nat}{K K':RM}{vt vp vl:Value}{sl:List (Sv×Sv)}
end
open Go.RowKit
def curStep (ts:List Th) (c:Int) (k:Nat):Int:=
 match ts[k]? with
 | none=>c
 | some t=>if t.st≠1 then c else if c < 0 then k else
  match ts[c.toNat]? with
  | none=>c
  | some u=>if u.row < t.row\/(t.row=u.row/\t.ord < u.ord) then k else c
def curM (ts:List Th):Nat->Int
 | 0=>-1
 | k+1=>curStep ts (curM ts k) k
def RM.cur (K:RM):Int:=curM K.threads K.threads.length
theorem curM_inv (ts:List Th):∀ k,k<=ts.length->curM ts k=-1\/∃ (j:Nat) (u:Th),curM ts k=j/\j < k/\ts[j]? = some u/\u.st=1
 | 0,_=>.inl rfl
 | k+1,h=>by
  obtain ⟨t,ht⟩:∃ t,ts[k]? = some t:=⟨_,List.getElem?_eq_getElem h⟩
  have ih:=curM_inv ts k (by omega)
  by_cases hst:t.st=1
  ·rcases ih with e | ⟨j,u,e,hj,hu,h1⟩
   ·right
    refine ⟨k,t,?_,by omega,ht,hst⟩
    simp [curM,curStep,ht,hst,e]
   ·right
    have e2:(curM ts k).toNat=j:=by rw [e];simp
    by_cases hc:u.row < t.row\/(t.row=u.row/\t.ord < u.ord)
    ·refine ⟨k,t,?_,by omega,ht,hst⟩
     simp only [curM,curStep,ht,e2,hu]
     rw [if_neg (by simpa using hst),if_neg (by omega),if_pos hc]
    ·refine ⟨j,u,?_,by omega,hu,h1⟩
     simp only [curM,curStep,ht,e2,hu]
     rw [if_neg (by simpa using hst),if_neg (by omega),if_neg hc,e]
  ·have e3:curM ts (k+1)=curM ts k:=by simp [curM,curStep,ht,hst]
   rw [e3]
   rcases ih with e | ⟨j,u,e,hj,hu,h1⟩
   ·exact .inl e
   ·exact .inr ⟨j,u,e,by omega,hu,h1⟩
def senStep (ts:List Th) (t f:Int) (c:Int) (k:Nat):Int:=
 match ts[k]? with
 | none=>c
 | some x=>if x.st≠2\/x.other≠t\/(f≠-1/\f≠k) then c else if c < 0 then k else
  match ts[c.toNat]? with
  | none=>c
  | some u=>if x.turn < u.turn then k else c
def senM (ts:List Th) (t f:Int):Nat->Int
 | 0=>-1
 | k+1=>senStep ts t f (senM ts t f k) k
theorem senM_inv (ts:List Th) (t f:Int):∀ k,k<=ts.length->senM ts t f k=-1\/∃ (j:Nat) (u:Th),senM ts t f k=j/\j < k/\ts[j]? = some u/\u.st=2/\u.other=t/\(f=-1\/f=j)
 | 0,_=>.inl rfl
 | k+1,h=>by
  obtain ⟨x,hx⟩:∃ x,ts[k]? = some x:=⟨_,List.getElem?_eq_getElem h⟩
  have ih:=senM_inv ts t f k (by omega)
  by_cases hs:x.st≠2\/x.other≠t\/(f≠-1/\f≠k)
  ·have e3:senM ts t f (k+1)=senM ts t f k:=by simp only [senM,senStep,hx];rw [if_pos hs]
   rw [e3]
   rcases ih with e | ⟨j,u,e,hj,hu⟩
   ·exact .inl e
   ·exact .inr ⟨j,u,e,by omega,hu⟩
  ·have hs':x.st=2/\x.other=t/\(f=-1\/f=k):=by omega
   right
   rcases ih with e | ⟨j,u,e,hj,hu,h1⟩
   ·refine ⟨k,x,?_,by omega,hx,hs'⟩
    simp only [senM,senStep,hx]
    rw [if_neg hs,if_pos (by omega)]
   ·have e2:(senM ts t f k).toNat=j:=by rw [e];simp
    by_cases hc:x.turn < u.turn
    ·refine ⟨k,x,?_,by omega,hx,hs'⟩
     simp only [senM,senStep,hx,e2,hu]
     rw [if_neg hs,if_neg (by omega),if_pos hc]
    ·refine ⟨j,u,?_,by omega,hu,h1⟩
     simp only [senM,senStep,hx,e2,hu]
     rw [if_neg hs,if_neg (by omega),if_neg hc,e]
open Go.RowKit
def RM.upd (K:RM) (t:Nat) (f:Th->Th):RM:={ K with threads:=K.threads.modify t f }
def RM.toFirst (K:RM) (t:Nat):RM:={ K.upd t (fun u=>{ u with ord:=K.first }) with first:=K.first-1 }
def RM.toLast (K:RM) (t:Nat):RM:={ K.upd t (fun u=>{ u with ord:=K.last }) with last:=K.last+1 }
def RM.over (K:RM) (t:Nat) (e:Int):RM:=K.upd t (fun u=>{ u with st:=1,time:=-1,code:=e,who:=-1,ws:=[],got:=-1 })
def tim (c w:Int):Int:=if 0 < w then wrap64 (c+w) else -1
def RM.waits (K:RM) (t:Nat) (st other:Int):RM:={ K.upd t (fun u=>{ u with st:=st,other:=other,turn:=K.last,time:=tim K.clock u.wait }) with last:=K.last+1 }
theorem get_modify {α:Type}{l:List α}{t:Nat}{u:α}(f:α->α) (h:l[t]? = some u):(l.modify t f)[t]? = some (f u):=by
 rw [List.getElem?_modify,h];simp
theorem modify_at {α:Type}{l:List α}{t:Nat}{u:α}{f h:α->α}(hu:l[t]? = some u) (e:f u=h u):l.modify t f=l.modify t h:=by
 apply List.ext_getElem?
 intro i
 rw [List.getElem?_modify,List.getElem?_modify]
 by_cases q:t=i
 ·subst q;rw [hu];simp [e]
 ·simp [q]
theorem modify_two {α:Type}{l:List α}{t:Nat}{u:α}{f g h:α->α}(hu:l[t]? = some u) (e:g (f u)=h u):(l.modify t f).modify t g=l.modify t h:=by
 apply List.ext_getElem?
 intro i
 rw [List.getElem?_modify,List.getElem?_modify,List.getElem?_modify]
 by_cases q:t=i
 ·subst q;rw [hu];simp [e]
 ·simp [q]
section
variable {w w':World}{y:Nat}{K:RM}{g n c:Nat}{vp vl:Value}{sl:List (Sv×Sv)}
end
open Go.RowKit
inductive Und (L:List Lf) (s n:Int):Lf->Prop
 | base (l:Lf):l.usp=s->l.upg=n->Und L s n l
 | step (l p:Lf):p∈L->p.sp=l.usp->p.pg=l.upg->Und L s n p->Und L s n l
def ApL (L:List Lf):Prop:=L.Pairwise (fun a b=>¬ (a.sp=b.sp/\a.pg=b.pg))
def Kin (r:Int->Int->Nat) (L:List Lf):Prop:=∀ l∈L,0<=l.sp/\((l.usp=-1/\l.upg=-1)\/∃ p∈L,p.sp=l.usp/\p.pg=l.upg/\r p.sp p.pg < r l.sp l.pg)
noncomputable def stays (L:List Lf) (s n:Int) (own:Bool) (l:Lf):Bool:=@decide (¬ Und L s n l/\¬ (own=true/\l.sp=s/\l.pg=n)) (Classical.propDecidable _)
theorem stays_iff {L:List Lf}{s n:Int}{own:Bool}{l:Lf}:stays L s n own l=true↔¬ Und L s n l/\¬ (own=true/\l.sp=s/\l.pg=n):=@decide_eq_true_iff _ (Classical.propDecidable _)
noncomputable def goneL (L:List Lf) (s n:Int) (own:Bool):List Lf:=L.filter (stays L s n own)
theorem ApL.eq {L:List Lf}(h:ApL L){a b:Lf}(ha:a∈L) (hb:b∈L) (h1:a.sp=b.sp) (h2:a.pg=b.pg):a=b:=by
 induction L with
 | nil=>simp at ha
 | cons x L ih=>
  rw [ApL,List.pairwise_cons] at h
  rcases List.mem_cons.1 ha with rfl | ha
  ·rcases List.mem_cons.1 hb with rfl | hb
   ·rfl
   ·exact absurd ⟨h1,h2⟩ (h.1 b hb)
  ·rcases List.mem_cons.1 hb with e | hb
   ·exact absurd ⟨by rw [<- e,h1],by rw [<- e,h2]⟩ (h.1 a ha)
   ·exact ih h.2 ha hb
theorem mem_gone {L:List Lf}{s n:Int}{own:Bool}{l:Lf}:l∈goneL L s n own↔l∈L/\¬ Und L s n l/\¬ (own=true/\l.sp=s/\l.pg=n):=by
 unfold goneL
 rw [List.mem_filter,stays_iff]
theorem gone_apl {L:List Lf}(h:ApL L) (s n:Int) (own:Bool):ApL (goneL L s n own):=List.Pairwise.filter _ h
theorem Und.sub {L L':List Lf}{s n:Int}(hs:∀ l∈L',l∈L){l:Lf}(h:Und L' s n l):Und L s n l:=by
 induction h with
 | base l h1 h2=>exact .base l h1 h2
 | step l p hp h1 h2 _ ih=>exact .step l p (hs p hp) h1 h2 ih
theorem Und.trans {L:List Lf}{s n:Int}{c l:Lf}(hc:c∈L) (h:Und L s n c) (hl:Und L c.sp c.pg l):Und L s n l:=by
 induction hl with
 | base l h1 h2=>exact .step l c hc h1.symm h2.symm h
 | step l p hp h1 h2 _ ih=>exact .step l p hp h1 h2 ih
theorem gone_kin {r:Int->Int->Nat}{L:List Lf}(h:Kin r L) (s n:Int) (own:Bool):Kin r (goneL L s n own):=by
 intro l hl
 obtain ⟨h1,h2,h3⟩:=mem_gone.1 hl
 refine ⟨(h l h1).1,?_⟩
 rcases (h l h1).2 with e | ⟨p,hp,e1,e2,e3⟩
 ·exact .inl e
 ·refine .inr ⟨p,mem_gone.2 ⟨hp,fun hu=>h2 (.step l p hp e1 e2 hu),fun ⟨_,g1,g2⟩=>h2 (.base l ?_ ?_)⟩,e1,e2,e3⟩
  ·rw [<- e1,g1]
  ·rw [<- e2,g2]
theorem gone_step {L:List Lf}(ha:ApL L){s n:Int}{c:Lf}(hc:c∈L) (h1:c.usp=s) (h2:c.upg=n) (own:Bool):goneL (goneL L c.sp c.pg true) s n own=goneL L s n own:=by
 have hsub:∀ l∈goneL L c.sp c.pg true,l∈L:=fun l hl=>(mem_gone.1 hl).1
 have hcu:Und L s n c:=.base c h1 h2
 have key:∀ l,Und L s n l->l∈goneL L c.sp c.pg true->Und (goneL L c.sp c.pg true) s n l:=by
  intro l hl
  induction hl with
  | base l g1 g2=>exact fun _=>.base l g1 g2
  | step l p hp g1 g2 _ ih=>
   intro hm
   obtain ⟨_,m2,_⟩:=mem_gone.1 hm
   have hpm:p∈goneL L c.sp c.pg true:=by
    refine mem_gone.2 ⟨hp,fun hu=>m2 (.step l p hp g1 g2 hu),fun ⟨_,k1,k2⟩=>m2 (.base l ?_ ?_)⟩
    ·rw [<- g1,k1]
    ·rw [<- g2,k2]
   exact .step l p hpm g1 g2 (ih hpm)
 have e:∀ l∈L,(¬ Und (goneL L c.sp c.pg true) s n l/\¬ (own=true/\l.sp=s/\l.pg=n))/\(¬ Und L c.sp c.pg l/\¬ (true=true/\l.sp=c.sp/\l.pg=c.pg))↔¬ Und L s n l/\¬ (own=true/\l.sp=s/\l.pg=n):=by
  intro l hl
  constructor
  ·rintro ⟨⟨a1,a2⟩,a3,a4⟩
   exact ⟨fun hu=>a1 (key l hu (mem_gone.2 ⟨hl,a3,a4⟩)),a2⟩
  ·rintro ⟨a1,a2⟩
   refine ⟨⟨fun hu=>a1 (hu.sub hsub),a2⟩,fun hu=>a1 (hcu.trans hc hu),fun ⟨_,k1,k2⟩=>a1 ?_⟩
   rw [ha.eq hl hc k1 k2];exact hcu
 have hr:goneL (goneL L c.sp c.pg true) s n own=(L.filter (stays L c.sp c.pg true)).filter (stays (goneL L c.sp c.pg true) s n own):=rfl
 rw [hr,List.filter_filter]
 apply List.filter_congr
 intro l hl
 rw [Bool.eq_iff_iff,Bool.and_eq_true,stays_iff,stays_iff,stays_iff]
 exact e l hl
theorem kin_child {r:Int->Int->Nat}{L:List Lf}(h:Kin r L){c:Lf}(hc:c∈L){s n:Int}(hs:0<=s) (h1:c.usp=s) (h2:c.upg=n):r s n < r c.sp c.pg:=by
 rcases (h c hc).2 with e | ⟨p,_,e1,e2,e3⟩
 ·omega
 ·rw [<- h1,<- h2,<- e1,<- e2];exact e3
theorem Und.child {L:List Lf}{s n:Int}{l:Lf}(hl:l∈L) (h:Und L s n l):∃ c∈L,c.usp=s/\c.upg=n:=by
 induction h with
 | base l h1 h2=>exact ⟨l,hl,h1,h2⟩
 | step l p hp _ _ _ ih=>exact ih hp
theorem gone_none {L:List Lf}{s n:Int}(h:∀ c∈L,¬ (c.usp=s/\c.upg=n)) (own:Bool):goneL L s n own=if own=true then L.filter (fun l=>!(l.sp == s && l.pg == n)) else L:=by
 have hno:∀ l∈L,¬ Und L s n l:=fun l hl hu=>by
  obtain ⟨c,hc,h1,h2⟩:=hu.child hl
  exact h c hc ⟨h1,h2⟩
 unfold goneL
 cases own with
 | true=>
  rw [if_pos rfl]
  apply List.filter_congr
  intro l hl
  rw [Bool.eq_iff_iff,stays_iff]
  have:=hno l hl
  simp [this]
  omega
 | false=>
  rw [if_neg (by simp)]
  rw [List.filter_eq_self]
  intro l hl
  rw [stays_iff]
  exact ⟨hno l hl,by simp⟩
def younger (r:Int->Int->Nat) (L:List Lf) (k:Nat):Nat:=(L.filter (fun l=>decide (k < r l.sp l.pg))).length
theorem younger_lt {r:Int->Int->Nat}{L:List Lf}{c:Lf}(hc:c∈L){k:Nat}(hk:k < r c.sp c.pg):younger r L (r c.sp c.pg) < younger r L k:=by
 unfold younger
 induction L with
 | nil=>simp at hc
 | cons x L ih=>
  have mono:∀ L:List Lf,(L.filter (fun l=>decide (r c.sp c.pg < r l.sp l.pg))).length<=(L.filter (fun l=>decide (k < r l.sp l.pg))).length:=by
   intro L
   induction L with
   | nil=>simp
   | cons z L ihz=>
    rw [List.filter_cons,List.filter_cons]
    by_cases h1:r c.sp c.pg < r z.sp z.pg
    ·have h2:k < r z.sp z.pg:=by omega
     simp [h1,h2];exact ihz
    ·by_cases h2:k < r z.sp z.pg
     ·simp [h1,h2];omega
     ·simp [h1,h2];exact ihz
  rw [List.filter_cons,List.filter_cons]
  rcases List.mem_cons.1 hc with rfl | hc
  ·have h1:¬ r c.sp c.pg < r c.sp c.pg:=by omega
   simp [hk]
   have:=mono L
   omega
  ·have:=ih hc
   by_cases h1:r c.sp c.pg < r x.sp x.pg
   ·have h2:k < r x.sp x.pg:=by omega
    simp [h1,h2];exact this
   ·by_cases h2:k < r x.sp x.pg
    ·simp [h1,h2];omega
    ·simp [h1,h2];exact this
theorem younger_gone (r:Int->Int->Nat) (L:List Lf) (k:Nat) (s n:Int) (own:Bool):younger r (goneL L s n own) k<=younger r L k:=by
 unfold younger goneL
 rw [List.filter_filter,List.filter_congr (fun l _=>Bool.and_comm _ _),<- List.filter_filter]
 exact List.length_filter_le _ _
open Go.RowKit
section
variable {P:Program}(w:World)
end
theorem Sl.toInl {w:World}{e:TypeId}{a:Option Addr}{n c:Nat}{l:List Int}(h:Sl w e 1 (.slice a n c) (l.map lnI)) (hl:l.length<=maxLen):Inl w 1 (.slice a n c) (l.map lnI):=by
 have hlen:∀ r∈l.map lnI,r.length=1:=h.len
 have hone:∀ r∈l.map lnI,∀ u∈r,u.oneCell'=true:=fun r hr u hu=>by
  obtain ⟨z,_,rfl⟩:=List.mem_map.1 hr
  simp [lnI] at hu
  subst hu;rfl
 rcases h.form with ⟨e1,e2⟩ | ⟨g,cap,e1,_,_⟩
 ·exact ⟨hlen,hone,_,_,e1.trans (by rw [e2];rfl),by simpa using hl,.inl e2⟩
 ·have e2:=e1
  simp only [Value.slice.injEq] at e2
  obtain ⟨rfl,rfl,rfl⟩:=e2
  refine ⟨hlen,hone,_,_,rfl,by simpa using hl,.inr ⟨g,0,rfl,fun j v hv=>?_⟩⟩
  have:=h.own.cells (g:=g) rfl j v hv
  rw [Addr.add_mid] at this
  exact this
def findLf (L:List Lf) (s n:Int):Option Lf:=L.find? (fun l=>l.sp == s && l.pg == n)
noncomputable def lendL (L:List Lf) (a b:Th):List Lf×Int:=
 if a.item < 0\/b.win < 0\/a.lends=false then (L,-1) else
  match findLf (goneL L b.sp b.win true) a.sp a.item with
  | none=>(goneL L b.sp b.win true,-1)
  | some l=>if bits .and .i64 l.rt a.rt=0 then (goneL L b.sp b.win true,-1) else (goneL L b.sp b.win true ++ [⟨b.sp,b.win,l.fr,bits .and .i64 l.rt a.rt,a.sp,a.item⟩],b.win)
noncomputable def RM.deliver (K:RM) (s r:Nat):RM:=
 match K.threads[s]?,K.threads[r]? with
 | some a,some b=>{ K.upd r (fun u=>{ u with st:=1,time:=-1,code:=0,who:=s,ws:=a.mw,got:=(lendL K.leaves a b).2 }) with leaves:=(lendL K.leaves a b).1 }
 | _,_=>K
open Go.RowKit
open Go.RowKit
structure FitT (sp:Int) (i:Nat) (t:Th):Prop where
 s0:0<=t.sp
 s1:t.sp<=sp-1
 r0:0<=t.row
 r1:t.row<=3
 l0:1<=t.left
 l1:t.left<=3
 mw:t.mw.length<=4
 ws:t.ws.length<=4
 win:t.win<=5
 st:t.st=1\/t.st=2\/t.st=3
 ot:t.st=2->t.other≠i
structure RM.Fit (K:RM):Prop where
 one:0 < K.threads.length
 six:K.threads.length<=6
 sp1:1<=K.sp
 sp3:K.sp<=3
 th:∀ (i:Nat) t,K.threads[i]? = some t->FitT K.sp i t
 ap:ApL K.leaves
 kin:∃ r,Kin r K.leaves
 lf:∀ l∈K.leaves,l.sp<=K.sp-1/\0<=l.pg/\l.pg<=5
theorem nodup_lt:∀ (m:Nat) (l:List Nat),l.Nodup->(∀ t∈l,t < m)->l.length<=m
 | 0,l,_,h=>by
  cases l with
  | nil=>simp
  | cons a r=>exact absurd (h a (by simp)) (by omega)
 | m+1,l,hn,h=>by
  have h1:(l.erase m).length<=m:=nodup_lt m (l.erase m) (hn.sublist List.erase_sublist) (fun t ht=>by
   have h2:=(hn.mem_erase_iff).1 ht
   have:=h t h2.2
   have:=h2.1
   omega)
  have:l.length<=(l.erase m).length+1:=by
   by_cases hm:m∈l
   ·rw [List.length_erase_of_mem hm];omega
   ·rw [List.erase_of_not_mem hm];omega
  omega
theorem RM.Fit.upd {K:RM}(h:K.Fit) (r:Nat) (f:Th->Th) (hf:∀ t,K.threads[r]? = some t->FitT K.sp r (f t)):(K.upd r f).Fit:=by
 refine ⟨by simpa [RM.upd] using h.one,by simpa [RM.upd] using h.six,h.sp1,h.sp3,fun i t ht=>?_,h.ap,h.kin,h.lf⟩
 have ht2:(K.threads.modify r f)[i]? = some t:=ht
 rw [List.getElem?_modify] at ht2
 rcases hx:K.threads[i]? with _ | x
 ·rw [hx] at ht2;simp at ht2
 ·rw [hx] at ht2
  by_cases e:r=i
  ·subst e
   simp at ht2
   rw [<- ht2];exact hf x hx
  ·simp [e] at ht2
   rw [<- ht2];exact h.th i x hx
theorem RM.Fit.nums {K:RM} (h:K.Fit) (cl fi la:Int):({ K with clock:=cl,first:=fi,last:=la }:RM).Fit:=⟨h.one,h.six,h.sp1,h.sp3,h.th,h.ap,h.kin,h.lf⟩
theorem RM.Fit.setL {K:RM} (h:K.Fit) (L:List Lf) (ap:ApL L) (kin:∃ r,Kin r L) (lf:∀ l∈L,l.sp<=K.sp-1/\0<=l.pg/\l.pg<=5):({ K with leaves:=L }:RM).Fit:=⟨h.one,h.six,h.sp1,h.sp3,h.th,ap,kin,lf⟩
theorem RM.Fit.toFirst {K:RM} (h:K.Fit) (t:Nat):(K.toFirst t).Fit:=(h.upd t (fun u=>{ u with ord:=K.first }) (fun x hx=>by have f:=h.th t x hx;exact ⟨f.s0,f.s1,f.r0,f.r1,f.l0,f.l1,f.mw,f.ws,f.win,f.st,f.ot⟩)).nums _ _ _
theorem RM.Fit.toLast {K:RM} (h:K.Fit) (t:Nat):(K.toLast t).Fit:=(h.upd t (fun u=>{ u with ord:=K.last }) (fun x hx=>by have f:=h.th t x hx;exact ⟨f.s0,f.s1,f.r0,f.r1,f.l0,f.l1,f.mw,f.ws,f.win,f.st,f.ot⟩)).nums _ _ _
theorem RM.Fit.over {K:RM}(h:K.Fit) (t:Nat) (e:Int):(K.over t e).Fit:=h.upd t _ (fun x hx=>by have f:=h.th t x hx;exact ⟨f.s0,f.s1,f.r0,f.r1,f.l0,f.l1,f.mw,by simp,f.win,.inl rfl,fun g=>by simp at g⟩)
theorem RM.Fit.waits {K:RM} (h:K.Fit) (t:Nat) (st other:Int) (hs:st=2\/st=3) (ho:st=2->other≠t):(K.waits t st other).Fit:=(h.upd t (fun u=>{ u with st:=st,other:=other,turn:=K.last,time:=tim K.clock u.wait }) (fun x hx=>by have f:=h.th t x hx;exact ⟨f.s0,f.s1,f.r0,f.r1,f.l0,f.l1,f.mw,f.ws,f.win,.inr hs,ho⟩)).nums _ _ _
theorem lend_fit {L:List Lf}{sp:Int}(ap:ApL L) (kin:∃ r,Kin r L) (lf:∀ l∈L,l.sp<=sp-1/\0<=l.pg/\l.pg<=5) (a b:Th) (b0:0<=b.sp) (b1:b.sp<=sp-1) (b2:b.win<=5) :
  ApL (lendL L a b).1/\(∃ r,Kin r (lendL L a b).1)/\∀ l∈(lendL L a b).1,l.sp<=sp-1/\0<=l.pg/\l.pg<=5:=by
 obtain ⟨r,hk⟩:=kin
 have G1:=gone_apl ap b.sp b.win true
 have G2:=gone_kin hk b.sp b.win true
 have G3:∀ l∈goneL L b.sp b.win true,l.sp<=sp-1/\0<=l.pg/\l.pg<=5:=fun l hl=>lf l (mem_gone.1 hl).1
 unfold lendL
 split
 ·exact ⟨ap,⟨r,hk⟩,lf⟩
 ·rename_i hn
  split
  ·exact ⟨G1,⟨r,G2⟩,G3⟩
  ·rename_i l hl
   have hm:=List.mem_of_find?_eq_some hl
   have hq:=List.find?_some hl
   simp at hq
   split
   ·exact ⟨G1,⟨r,G2⟩,G3⟩
   ·have away:∀ z∈goneL L b.sp b.win true,¬ (z.sp=b.sp/\z.pg=b.win):=fun z hz e=>(mem_gone.1 hz).2.2 ⟨rfl,e⟩
    refine ⟨?_,⟨fun s n=>if s=b.sp/\n=b.win then r a.sp a.item+1 else r s n,?_⟩,?_⟩
    ·refine List.pairwise_append.2 ⟨G1,by simp,fun x hx z hz=>?_⟩
     rw [List.mem_singleton] at hz
     rw [hz]
     exact away x hx
    ·intro z hz
     rcases List.mem_append.1 hz with hz | hz
     ·refine ⟨(G2 z hz).1,?_⟩
      rcases (G2 z hz).2 with e | ⟨p,hp,e1,e2,e3⟩
      ·exact .inl e
      ·exact .inr ⟨p,List.mem_append_left _ hp,e1,e2,by dsimp only;rw [if_neg (away p hp),if_neg (away z hz)];exact e3⟩
     ·rw [List.mem_singleton] at hz
      rw [hz]
      refine ⟨b0,.inr ⟨l,List.mem_append_left _ hm,hq.1,hq.2,?_⟩⟩
      dsimp only
      rw [if_neg (away l hm),if_pos ⟨rfl,rfl⟩,hq.1,hq.2]
      omega
    ·intro z hz
     rcases List.mem_append.1 hz with hz | hz
     ·exact G3 z hz
     ·rw [List.mem_singleton] at hz
      rw [hz]
      exact ⟨b1,by dsimp only;omega,b2⟩
theorem RM.Fit.deliver {K:RM}(h:K.Fit) (s r:Nat):(K.deliver s r).Fit:=by
 unfold RM.deliver
 rcases hs:K.threads[s]? with _ | a
 ·exact h
 ·rcases hr:K.threads[r]? with _ | b
  ·exact h
  ·have fa:=h.th s a hs
   have fb:=h.th r b hr
   obtain ⟨g1,g2,g3⟩:=lend_fit h.ap h.kin h.lf a b fb.s0 fb.s1 fb.win
   exact (h.upd r _ (fun x hx=>by have f:=h.th r x hx;exact ⟨f.s0,f.s1,f.r0,f.r1,f.l0,f.l1,f.mw,fa.mw,f.win,.inl rfl,fun g=>by simp at g⟩)).setL _ g1 g2 g3
noncomputable def RM.heard (K:RM) (s t:Nat) (stands:Bool):RM:=if stands=true then K.deliver s t else (K.deliver s t).toFirst t
noncomputable def RM.recv:Nat->RM->Nat->Bool->RM
 | 0,K,_,_=>K
 | n+1,K,t,stands=>
  match K.threads[t]? with
  | none=>K
  | some x=>
   if senM K.threads t x.frm K.threads.length < 0 then
    if x.wait≠0 then K.waits t 3 (-1) else if stands=true then K.over t 5 else (K.over t 5).toLast t
   else
    match (K.heard (senM K.threads t x.frm K.threads.length).toNat t stands).threads[(senM K.threads t x.frm K.threads.length).toNat]? with
    | none=>K.heard (senM K.threads t x.frm K.threads.length).toNat t stands
    | some z=>
     if z.frm≠-2 then RM.recv n (K.heard (senM K.threads t x.frm K.threads.length).toNat t stands) (senM K.threads t x.frm K.threads.length).toNat false
     else if false=true then (K.heard (senM K.threads t x.frm K.threads.length).toNat t stands).over (senM K.threads t x.frm K.threads.length).toNat 0
     else ((K.heard (senM K.threads t x.frm K.threads.length).toNat t stands).over (senM K.threads t x.frm K.threads.length).toNat 0).toLast (senM K.threads t x.frm K.threads.length).toNat
noncomputable def RM.goes (n:Nat) (K:RM) (s:Nat) (stands:Bool):RM:=
 match K.threads[s]? with
 | none=>K
 | some z=>if z.frm≠-2 then K.recv n s stands else if stands=true then K.over s 0 else (K.over s 0).toLast s
theorem recv_none {n:Nat}{K:RM}{t:Nat}{stands:Bool}{x:Th}(hx:K.threads[t]? = some x) (hs:senM K.threads t x.frm K.threads.length < 0):K.recv (n+1) t stands=if x.wait≠0 then K.waits t 3 (-1) else if stands=true then K.over t 5 else (K.over t 5).toLast t:=by
 simp only [RM.recv,hx]
 rw [if_pos hs]
theorem recv_some {n:Nat}{K:RM}{t s:Nat}{stands:Bool}{x:Th}(hx:K.threads[t]? = some x) (hs:senM K.threads t x.frm K.threads.length=s):K.recv (n+1) t stands=(K.heard s t stands).goes n s false:=by
 simp only [RM.recv,hx,hs]
 rw [if_neg (by omega),Int.toNat_natCast]
 rfl
theorem RM.Fit.heard {K:RM}(h:K.Fit) (s t:Nat) (stands:Bool):(K.heard s t stands).Fit:=by
 unfold RM.heard
 split
 ·exact h.deliver s t
 ·exact (h.deliver s t).toFirst t
def sending (ts:List Th):Nat:=(ts.filter (fun t=>t.st == 2)).length
theorem sending_modify {ts:List Th}{t:Nat}{u:Th}(f:Th->Th) (hu:ts[t]? = some u) (h2:(f u).st≠2):sending (ts.modify t f)+(if u.st=2 then 1 else 0)=sending ts:=by
 unfold sending
 induction ts generalizing t with
 | nil=>simp at hu
 | cons x ts ih=>
  cases t with
  | zero=>
   simp at hu
   subst hu
   rw [List.modify_zero_cons,List.filter_cons,List.filter_cons]
   by_cases e:x.st=2
   ·simp [e,h2]
   ·simp [e,h2]
  | succ t=>
   have:=ih (t:=t) (by simpa using hu)
   rw [List.modify_succ_cons,List.filter_cons,List.filter_cons]
   by_cases e:x.st=2
   ·simp [e];omega
   ·simp [e];omega
theorem sending_pos {ts:List Th}{t:Nat}{u:Th}(hu:ts[t]? = some u) (h2:u.st=2):0 < sending ts:=by
 unfold sending
 exact List.length_pos_of_mem (List.mem_filter.2 ⟨List.mem_of_getElem? hu,by simp [h2]⟩)
open Go.RowKit
theorem deliver_threads {K:RM} {s t:Nat} {a x:Th} (ha:K.threads[s]? = some a) (hx:K.threads[t]? = some x):(K.deliver s t).threads=K.threads.modify t (fun u=>{ u with st:=1,time:=-1,code:=0,who:=s,ws:=a.mw,got:=(lendL K.leaves a x).2 }):=by
 simp only [RM.deliver,ha,hx,RM.upd]
theorem heard_threads {K:RM}{s t:Nat}{a x:Th}(stands:Bool) (ha:K.threads[s]? = some a) (hx:K.threads[t]? = some x):∃ F:Th->Th,(F x).st=1/\(K.heard s t stands).threads=K.threads.modify t F:=by
 unfold RM.heard
 cases stands with
 | true=>exact ⟨_,rfl,deliver_threads ha hx⟩
 | false=>
  refine ⟨fun u=>{ u with st:=1,time:=-1,code:=0,who:=s,ws:=a.mw,got:=(lendL K.leaves a x).2,ord:=(K.deliver s t).first },rfl,?_⟩
  show (K.deliver s t).threads.modify t _=_
  rw [deliver_threads ha hx]
  exact modify_two hx rfl
theorem modify_other {α:Type}{l:List α}{t s:Nat}(f:α->α) (h:s≠t):(l.modify t f)[s]? = l[s]?:=by
 rw [List.getElem?_modify]
 have:¬ t=s:=fun e=>h e.symm
 simp [this]
open Go.RowKit
structure Ms where
 dst:Int
 words:List Int
 item:Int
 rt:Int
 frm:Int
 win:Int
 wait:Int
def isMs (n:Nat) (m:Ms):Bool:=inI m.dst (-1) 5 && (inI m.frm (-2) ((n:Int)-1) && (inI m.item (-1) 5 && (inI m.rt 0 3 && (inI m.win (-1) 5 && (decide ((m.words.length:Int)<=4) && (decide (-1<=m.wait) && (decide (0<=m.dst) || decide (-2 < m.frm))))))))
open Go.RowKit
def RM.asks (K:RM) (t:Nat) (m:Ms):RM:=K.upd t (fun u=>{ u with dst:=m.dst,mw:=m.words,item:=m.item,rt:=m.rt,frm:=m.frm,win:=m.win,wait:=m.wait })
def RM.lendsTo (K:RM) (t:Nat) (b:Bool):RM:=K.upd t (fun u=>{ u with lends:=b })
noncomputable def RM.sends (K:RM) (t r:Nat) (m:Ms):RM:=
 match K.threads[r]? with
 | none=>K
 | some x=>if x.st=3/\(x.frm=-1\/x.frm=t) then ((K.deliver t r).toFirst r).goes 7 t true else if m.wait=0 then K.over t 5 else K.waits t 2 r
noncomputable def RM.ipc (K:RM) (m:Ms):Int×RM:=
 if K.cur < 0 then (2,K) else if isMs K.threads.length m=false then (3,K) else
  if m.dst < 0 then (0,(K.asks K.cur.toNat m).recv 7 K.cur.toNat true) else
   match K.threads[K.cur.toNat]? with
   | none=>(0,K)
   | some u=>
    match findQ K.passes u.sp m.dst with
    | none=>(0,(K.asks K.cur.toNat m).over K.cur.toNat 4)
    | some p=>if bits .and .i64 p.2.2.2 1=0\/p.2.2.1=K.cur then (0,(K.asks K.cur.toNat m).over K.cur.toNat 4) else (0,((K.asks K.cur.toNat m).lendsTo K.cur.toNat (bits .and .i64 p.2.2.2 2 != 0)).sends K.cur.toNat p.2.2.1.toNat m)
theorem RM.Fit.asks {K:RM}(h:K.Fit) (t:Nat) (m:Ms) (hw:m.words.length<=4) (h5:m.win<=5):(K.asks t m).Fit:=h.upd t _ (fun x hx=>by have f:=h.th t x hx;exact ⟨f.s0,f.s1,f.r0,f.r1,f.l0,f.l1,hw,f.ws,h5,f.st,f.ot⟩)
theorem RM.Fit.lendsTo {K:RM}(h:K.Fit) (t:Nat) (b:Bool):(K.lendsTo t b).Fit:=h.upd t _ (fun x hx=>by have f:=h.th t x hx;exact ⟨f.s0,f.s1,f.r0,f.r1,f.l0,f.l1,f.mw,f.ws,f.win,f.st,f.ot⟩)
theorem sending_le (ts:List Th):sending ts<=ts.length:=List.length_filter_le _ _
open Go.RowKit
def RM.setLeft (K:RM) (t:Nat) (n:Int):RM:=K.upd t (fun u=>{ u with left:=n })
def RM.ticked (K:RM):RM:={ K with clock:=K.clock+1 }
def RM.tickTo (K:RM):Nat->RM
 | 0=>K
 | i+1=>
  match (K.tickTo i).threads[i]? with
  | none=>K.tickTo i
  | some x=>if x.time=(K.tickTo i).clock then ((K.tickTo i).over i 6).toLast i else K.tickTo i
def RM.spent (K:RM):RM:=
 match K.threads[K.cur.toNat]? with
 | none=>K
 | some u=>if K.cur < 0 then K else if u.left-1=0 then (K.setLeft K.cur.toNat 3).toLast K.cur.toNat else K.setLeft K.cur.toNat (u.left-1)
def RM.tick (K:RM):RM:=K.ticked.spent.tickTo K.threads.length
def RM.yield (K:RM):Int×RM:=if K.cur < 0 then (2,K) else (0,(K.setLeft K.cur.toNat 3).toLast K.cur.toNat)
theorem tickTo_same (K:RM):∀ i,(K.tickTo i).threads.length=K.threads.length/\(K.tickTo i).clock=K.clock/\K.last<=(K.tickTo i).last/\(K.tickTo i).last<=K.last+i/\(K.tickTo i).first=K.first
 | 0=>⟨rfl,rfl,Int.le_refl _,by simp [RM.tickTo],rfl⟩
 | i+1=>by
  obtain ⟨h1,h2,h3,h4,h5⟩:=tickTo_same K i
  simp only [RM.tickTo]
  split
  ·exact ⟨h1,h2,h3,by omega,h5⟩
  ·split
   ·refine ⟨by simp [RM.toLast,RM.over,RM.upd,h1],h2,?_,?_,h5⟩
    ·show K.last<=(K.tickTo i).last+1;omega
    ·show (K.tickTo i).last+1<=_;omega
   ·exact ⟨h1,h2,h3,by omega,h5⟩
theorem RM.Fit.tickTo {K:RM}(h:K.Fit):∀ i,(K.tickTo i).Fit
 | 0=>h
 | i+1=>by
  simp only [RM.tickTo]
  split
  ·exact RM.Fit.tickTo h i
  ·split
   ·exact ((RM.Fit.tickTo h i).over i 6).toLast i
   ·exact RM.Fit.tickTo h i
theorem RM.Fit.setLeft {K:RM}(h:K.Fit) (t:Nat) (n:Int) (h1:1<=n) (h3:n<=3):(K.setLeft t n).Fit:=h.upd t _ (fun x hx=>by have f:=h.th t x hx;exact ⟨f.s0,f.s1,f.r0,f.r1,h1,h3,f.mw,f.ws,f.win,f.st,f.ot⟩)
open Go.RowKit
def RM.home (K:RM):Int:=match K.threads[K.cur.toNat]? with
 | some u=>u.sp
 | none=>0
def RM.touch (K:RM) (pg ce rt:Int):Int×Int:=
 if K.cur < 0 then (0,2) else if inI pg 0 5=true/\inI ce 0 3=true then
  match findLf K.leaves K.home pg with
  | some p=>if bits .and .i64 p.rt rt=0 then (0,7) else (p.fr,0)
  | none=>(0,7)
 else (0,3)
def RM.load (K:RM) (pg ce:Int):Int×Int:=if (K.touch pg ce 1).2=0 then (K.fr ((K.touch pg ce 1).1.toNat*4+ce.toNat),0) else (0,(K.touch pg ce 1).2)
def RM.stored (K:RM) (pg ce n:Int):RM:=if (K.touch pg ce 2).2=0 then { K with fr:=frSet K.fr ((K.touch pg ce 2).1.toNat*4+ce.toNat) n } else K
noncomputable def RM.unmap (K:RM) (pg:Int) (own:Bool):Int×RM:=
 if K.cur < 0 then (2,K) else if inI pg 0 5=true then
  match findLf K.leaves K.home pg with
  | some _=>(0,{ K with leaves:=goneL K.leaves K.home pg own })
  | none=>(8,K)
 else (3,K)
open Go.RowKit
def RM.drop (K:RM) (n:Int):Int×RM:=
 if K.cur < 0 then (2,K) else if inI n 0 5=true then
  match findQ K.passes K.home n with
  | some _=>(0,{ K with passes:=outQ K.passes K.home n })
  | none=>(4,K)
 else (3,K)
def RM.derive (K:RM) (a b r:Int):Int×RM:=
 if K.cur < 0 then (2,K) else if inI a 0 5=true/\inI b 0 5=true/\inI r 1 3=true then
  match findQ K.passes K.home a with
  | some p=>if hasRt p.2.2.2 r=true then (0,{ K with passes:=putQ K.passes K.home b p.2.2.1 r }) else (4,K)
  | none=>(4,K)
 else (3,K)
open Go.RowKit
def quad (l:Lf):Int×Int×Int×Int:=(l.sp,l.pg,l.fr,l.rt)
theorem find_quad (L:List Lf) (s n:Int):findQ (L.map quad) s n=(findLf L s n).map quad:=by
 unfold findQ findLf
 rw [List.find?_map]
 rfl
end Go.Proofs.YteejjgbeknnmeaaGreatDoor
