import Derived.WalkKit
import Derived.WalkSpells
import Derived.WalkLawsBesides
import Derived.Deep.MidRow
import Derived.Deep.RegionLaw
import Derived.Deep.RegionLawGrows
import Derived.Test.YteejjgbeknnmeaaGreatDoorRows
import Derived.Deep.QuietTactic
import Derived.BigQuiet
import Derived.Deep.WholeRow
import Derived.Lib.SliceRun
import Derived.Deep.RegionHeld3
import Derived.Deep.DeepCutAuto
import Derived.Lib.Overlaps
import Derived.Lib.AppendZerosOnto
import Derived.Laws.IdiomCopy
set_option maxRecDepth 100000
set_option maxHeartbeats 20000000
namespace Go.Proofs.YteejjgbeknnmeaaGreatDoor
open Go.RowKit
theorem ret_int {k:IntKind}{a b:Int}(h:a=b):Ending.returned (.int k a)=.returned (.int k b):=by rw [h]
theorem hid {p:Prop}(h:p):Hid p:=h
structure Fr (S:Nat->Prop) (w w':World):Prop where
 os:w'.os=w.os
 tape:w'.tape=w.tape
 output:w'.output=w.output
 size:w.heap.size<=w'.heap.size
 block:∀ k,k < w.heap.size->¬ S k->w'.heap[k]? = w.heap[k]?
theorem Fr.refl (S:Nat->Prop) (w:World):Fr S w w:=⟨rfl,rfl,rfl,Nat.le_refl _,fun _ _ _=>rfl⟩
theorem Fr.trans {S:Nat->Prop}{a b c:World}(h:Fr S a b) (k:Fr S b c):Fr S a c:=
 ⟨k.os.trans h.os,k.tape.trans h.tape,k.output.trans h.output,Nat.le_trans h.size k.size,
 fun i hi hs=>(k.block i (Nat.lt_of_lt_of_le hi h.size) hs).trans (h.block i hi hs)⟩
theorem Fr.mono {S T:Nat->Prop}{w w':World}(h:Fr S w w') (hST:∀ k,k < w.heap.size->S k->T k):Fr T w w':=
 ⟨h.os,h.tape,h.output,h.size,fun k hk hs=>h.block k hk (fun hS=>hs (hST k hk hS))⟩
theorem Fr.of_below {w w':World}(h:Below w.heap.size w w') (S:Nat->Prop):Fr S w w':=⟨h.os,h.tape,h.output,h.size,fun k hk _=>h.block k hk⟩
theorem Fr.to_below {S:Nat->Prop}{B:Nat}{w w':World}(h:Fr S w w') (hB:B<=w.heap.size) (hS:∀ k,S k->B<=k):Below B w w':=
 ⟨h.os,h.tape,h.output,h.size,fun k hk=>h.block k (by omega) (fun hs=>by have:=hS k hs;omega)⟩
theorem Fr.grown {w w':World}{row:Option Nat}(hg:w.grownBy w' row):Fr (fun k=>row=some k) w w':=
 ⟨hg.os,hg.tape,hg.output,hg.size,fun k hk hs=>hg.block k hk (fun e=>hs e.symm)⟩
theorem Fr.alloc {S:Nat->Prop}{a w:World}(h:Fr S a w) (o:Obj):Fr S a (w.alloc o):=
 h.trans ⟨rfl,rfl,rfl,by simp,fun k hk _=>Below.heap_alloc _ _ _ hk⟩
theorem Fr.drew {S:Nat->Prop}{a w:World}(h:Fr S a w):Fr S a w.drew:=⟨h.os,h.tape,h.output,h.size,h.block⟩
theorem Fr.setCell {S:Nat->Prop}{a w:World}(h:Fr S a w){p:Addr}(hp:p.block < a.heap.size->S p.block) (u:Value):Fr S a (w.setCell p u):=
 ⟨h.os,h.tape,h.output,by simpa [World.setCell] using h.size,fun k hk hs=>by
  rw [Below.heap_setCell _ _ _ _ (fun e=>hs (by rw [e];exact hp (by omega)))];exact h.block k hk hs⟩
theorem Fr.cell {S:Nat->Prop}{w w':World}(h:Fr S w w'){p:Addr}(hp:p.block < w.heap.size) (hs:¬ S p.block):w'.cell? p=w.cell? p:=World.cell?_of_block (w:=w) (h.block p.block hp hs)
def rep (n:Nat) (P:List Value):List Value:=(List.replicate n P).flatten
theorem rep_add (n m:Nat) (P:List Value):rep (n+m) P=rep n P ++ rep m P:=by simp [rep,<- List.replicate_append_replicate]
theorem length_rep (n:Nat) (P:List Value):(rep n P).length=n*P.length:=by
 induction n with
 | zero=>simp [rep]
 | succ n ih=>rw [rep_add,List.length_append,ih,Nat.succ_mul];simp [rep]
theorem rep_get (n:Nat) (P:List Value) (k j:Nat) (hk:k < n) (hj:j < P.length):(rep n P)[k*P.length+j]? = P[j]?:=by
 induction n generalizing k with
 | zero=>omega
 | succ n ih=>
  rw [Nat.add_comm n 1,rep_add]
  have e:rep 1 P=P:=by simp [rep]
  rw [e]
  rcases k with _ | k
  ·simp only [Nat.zero_mul,Nat.zero_add];exact List.getElem?_append_left hj
  ·rw [List.getElem?_append_right (by rw [Nat.succ_mul];omega)]
   rw [show (k+1)*P.length+j-P.length=k*P.length+j by rw [Nat.succ_mul];omega]
   exact ih k (by omega)
theorem owns_slice {w:World}{base:Nat}{e:TypeId}{size:Nat}{v:Value}{n:Nat}{xs:List Value}(h:w.ownsRow base e size v n xs):∃ a c,v=.slice a n c:=by
 rcases h.2 with ⟨rfl,rfl⟩ | ⟨g,cap,cur,rfl,_⟩
 ·exact ⟨_,_,rfl⟩
 ·exact ⟨_,_,rfl⟩
section
variable {P:Program}(w:World)
end
def setAt:List Value->Nat->List Value->List Value
 | ys,_,[]=>ys
 | ys,o,v :: r=>setAt (ys.set o v) (o+1) r
theorem length_setAt:∀ (vs:List Value) (ys:List Value) (o:Nat),(setAt ys o vs).length=ys.length
 | [],_,_=>rfl
 | v :: r,ys,o=>by rw [setAt,length_setAt r];simp
theorem setAt_eq:∀ (vs:List Value) (ys:List Value) (o:Nat),o+vs.length<=ys.length->setAt ys o vs=ys.take o ++ vs ++ ys.drop (o+vs.length)
 | [],ys,o,_=>by simp [setAt]
 | v :: r,ys,o,h=>by
  simp only [List.length_cons] at h
  rw [setAt,setAt_eq r _ _ (by simp;omega)]
  rw [List.drop_set_of_lt (by omega),List.length_cons]
  have e:(ys.set o v).take (o+1)=ys.take o ++ [v]:=by
   rw [List.take_succ_eq_append_getElem (by simp;omega),List.take_set_of_le (Nat.le_refl _)]
   simp
  rw [e,show o+1+r.length=o+(r.length+1) by omega]
  simp
theorem setCells_owns {base:Nat}{e:TypeId}{size g n cap:Nat}:∀ (vs:List Value) (o:Nat) (w:World) (ys:List Value),w.ownsRow base e size (.slice (some ⟨g,0,none⟩) n cap) n ys ->
  (w.setCells g o vs).ownsRow base e size (.slice (some ⟨g,0,none⟩) n cap) n (setAt ys o vs)/\w.grownBy (w.setCells g o vs) (some g)
 | [],_,w,_,h=>⟨h,rfl,rfl,rfl,Nat.le_refl _,fun _ _ _=>rfl⟩
 | v :: r,o,w,ys,h=>by
  have h1:=h.stored o v
  have h2:=setCells_owns r (o+1) _ _ h1.1
  refine ⟨h2.1,?_⟩
  have a:=h1.2
  have b:=h2.2
  exact ⟨b.os.trans a.os,b.tape.trans a.tape,b.output.trans a.output,Nat.le_trans a.size b.size,fun k hk hne=>(b.block k (Nat.lt_of_lt_of_le hk a.size) hne).trans (a.block k hk hne)⟩
theorem grown_setRow (w:World) (g:Nat) (cs:Array Value):w.grownBy (w.setRow g cs) (some g):=
 ⟨rfl,rfl,rfl,by simp,fun k _ hk=>setRow_other w g k _ (fun e=>hk (by simp [e]))⟩
theorem Fr.setRow {S:Nat->Prop}{a w:World}(h:Fr S a w){g:Nat}(hp:g < a.heap.size->S g) (cs:Array Value):Fr S a (w.setRow g cs):=
 ⟨h.os,h.tape,h.output,by simpa using h.size,fun k hk hs=>by
  rw [setRow_other w g k _ (fun e=>hs (by rw [e];exact hp (by omega)))];exact h.block k hk hs⟩
theorem cell_news (w:World) (cs:Array Value) (t:TypeId):∀ j u,cs.toList[j]? = some u->(w.alloc (.cells cs t)).cell? ((⟨w.heap.size,0,none⟩:Addr).add j)=some u:=by
 intro j u hj
 rw [Addr.add_mid,cell_of_row _ _ _ cs t (0,0) (heap_alloc_new w _)]
 simpa using hj
theorem size_alloc (w:World) (o:Obj):(w.alloc o).heap.size=w.heap.size+1:=by simp
theorem cell_news2 (w:World) (A:Obj) (cs:Array Value) (t:TypeId):∀ j u,cs.toList[j]? = some u->((w.alloc A).alloc (.cells cs t)).cell? ((⟨w.heap.size+1,0,none⟩:Addr).add j)=some u:=by
 have h:=cell_news (w.alloc A) cs t
 rw [size_alloc] at h
 exact h
theorem owns_there {base:Nat}{e:TypeId}{size g n cap:Nat}{w:World}{ys:List Value}(h:w.ownsRow base e size (.slice (some ⟨g,0,none⟩) n cap) n ys) (o m:Nat) (hm:o+m<=n*size):w.there g o m:=fun j hj=>by
 refine ⟨?_,h.frozenAt _⟩
 rw [h.cellAt _ (by omega),List.getElem?_eq_getElem (by have:=h.1;omega)]
 rfl
open Go.RowKit
def pickI (c n:Int):Int:=(if c < 0 then -(c+1) else c) % n
def inI (n lo hi:Int):Bool:=decide (lo<=n/\n<=hi)
open Go.RowKit
theorem Tryz.infoN2:(Tryz.prog.info? 2).map (fun i=>(i.zero,i.size,i.bytes))=some (some (.int .i64 0),1,8):=by kernel_rfl
theorem Tryz.infoN55:(Tryz.prog.info? 55).map (fun i=>(i.zero,i.size,i.bytes))=some (some (.agg #[.int .i64 0,.int .i64 0,.int .i64 0,.int .i64 0]),4,32):=by kernel_rfl
theorem Tryz.infoN67:(Tryz.prog.info? 67).map (fun i=>(i.zero,i.size,i.bytes))=some (some (.agg #[.int .i64 0,.int .i64 0,.int .i64 0,.int .i64 0]),4,32):=by kernel_rfl
open Go.RowKit
theorem flatten_len {s:Nat}:∀ (rows:List (List Value)),(∀ r∈rows,r.length=s)->rows.flatten.length=rows.length*s
 | [],_=>by simp
 | r :: rs,h=>by
  rw [List.flatten_cons,List.length_append,h r (by simp),flatten_len rs (fun x hx=>h x (by simp [hx])),List.length_cons,Nat.succ_mul];omega
theorem flatten_get {s:Nat}:∀ (rows:List (List Value)) (i j:Nat),(∀ r∈rows,r.length=s)->(hi:i < rows.length)->j < s->rows.flatten[i*s+j]? = rows[i][j]?
 | [],i,j,_,hi,_=>by simp at hi
 | r :: rs,0,j,h,_,hj=>by
  have e:r.length=s:=h r (by simp)
  rw [List.flatten_cons,List.getElem?_append_left (by omega)];simp
 | r :: rs,i+1,j,h,hi,hj=>by
  have e:r.length=s:=h r (by simp)
  rw [List.flatten_cons,List.getElem?_append_right (by rw [e,Nat.succ_mul];omega),e,show (i+1)*s+j-s=i*s+j by rw [Nat.succ_mul];omega,
   flatten_get rs i j (fun x hx=>h x (by simp [hx])) (by simpa using hi) hj]
  simp
theorem flatten_set {s:Nat}:∀ (rows:List (List Value)) (i j:Nat) (u:Value),(∀ r∈rows,r.length=s)->(hi:i < rows.length)->j < s ->
  rows.flatten.set (i*s+j) u=(rows.set i (rows[i].set j u)).flatten
 | [],i,j,_,_,hi,_=>by simp at hi
 | r :: rs,0,j,u,h,_,hj=>by
  have e:r.length=s:=h r (by simp)
  rw [List.flatten_cons,Nat.zero_mul,Nat.zero_add,List.set_append_left _ _ (by omega)];simp
 | r :: rs,i+1,j,u,h,hi,hj=>by
  have e:r.length=s:=h r (by simp)
  rw [List.flatten_cons,List.set_append_right _ _ (by rw [e,Nat.succ_mul];omega),e,show (i+1)*s+j-s=i*s+j by rw [Nat.succ_mul];omega,
   flatten_set rs i j u (fun x hx=>h x (by simp [hx])) (by simpa using hi) hj]
  simp
structure Sl (w:World) (e:TypeId) (size:Nat) (v:Value) (rows:List (List Value)):Prop where
 own:w.ownsRow 0 e size v rows.length rows.flatten
 len:∀ r∈rows,r.length=size
theorem Sl.nil (w:World) (e:TypeId) (size:Nat):Sl w e size (.slice none 0 0) []:=⟨World.ownsRow_nil w 0 e size,by simp⟩
theorem Sl.slice {w:World}{e:TypeId}{size:Nat}{v:Value}{rows:List (List Value)}(h:Sl w e size v rows):∃ a c,v=.slice a rows.length c:=owns_slice h.own
theorem Sl.form {w:World}{e:TypeId}{size:Nat}{v:Value}{rows:List (List Value)}(h:Sl w e size v rows) :
  (v=.slice none 0 0/\rows=[])\/∃ g cap,v=.slice (some ⟨g,0,none⟩) rows.length cap/\rows.length<=cap/\cap<=maxLen/\g < w.heap.size:=by
 rcases h.own.2 with ⟨rfl,hn⟩ | ⟨g,cap,cur,rfl,_,hg,h1,h2,_⟩
 ·exact .inl ⟨rfl,List.eq_nil_of_length_eq_zero hn⟩
 ·exact .inr ⟨g,cap,rfl,h1,h2,(Array.getElem?_eq_some_iff.1 hg).1⟩
theorem Sl.is_some {w:World}{e:TypeId}{size:Nat}{a:Option Addr}{n c:Nat}{rows:List (List Value)}(h:Sl w e size (.slice a n c) rows) (hp:0 < n):∃ g,a=some ⟨g,0,none⟩/\n=rows.length:=by
 rcases h.form with ⟨h1,h2⟩ | ⟨g,cap,h1,_⟩
 ·simp at h1;omega
 ·simp at h1;exact ⟨g,h1.1,h1.2.1⟩
theorem Sl.lt {w:World}{e:TypeId}{size:Nat}{v:Value}{rows:List (List Value)}(h:Sl w e size v rows){k:Nat}(hk:v.ownBlock=some k):k < w.heap.size:=(h.own.lt k hk).2
theorem Sl.kept {w w':World}{e:TypeId}{size:Nat}{v:Value}{rows:List (List Value)}(h:Sl w e size v rows){S:Nat->Prop}(hf:Fr S w w') (hs:∀ k,v.ownBlock=some k->¬ S k):Sl w' e size v rows:=by
 refine ⟨⟨h.own.1,?_⟩,h.len⟩
 rcases h.own.2 with h2 | ⟨g,cap,cur,rfl,hb,hg,r⟩
 ·exact .inl h2
 ·exact .inr ⟨g,cap,cur,rfl,hb,by rw [hf.block g (Array.getElem?_eq_some_iff.1 hg).1 (hs g rfl)];exact hg,r⟩
theorem Sl.alloc {w:World}{e:TypeId}{size:Nat}{v:Value}{rows:List (List Value)}(h:Sl w e size v rows) (o:Obj):Sl (w.alloc o) e size v rows:=⟨h.own.alloc o,h.len⟩
theorem owns_drew {w:World}{base:Nat}{e:TypeId}{size:Nat}{v:Value}{n:Nat}{xs:List Value}(h:w.ownsRow base e size v n xs):w.drew.ownsRow base e size v n xs:=h
theorem Sl.drew {w:World}{e:TypeId}{size:Nat}{v:Value}{rows:List (List Value)}(h:Sl w e size v rows):Sl w.drew e size v rows:=⟨h.own,h.len⟩
section
variable {w:World}{e:TypeId}{size g n cap:Nat}{rows:List (List Value)}
theorem Sl.cell (h:Sl w e size (.slice (some ⟨g,0,none⟩) n cap) rows) (i j:Nat) (hi:i < rows.length) (hj:j < size):w.cell? ⟨g,i*size+j,none⟩=rows[i][j]?:=by
 have hn:n=rows.length:=by
  rcases h.own.2 with ⟨h1,_⟩ | ⟨g',cap',cur,h1,_⟩
  ·simp at h1
  ·simp at h1;exact h1.2.1
 subst hn
 rw [h.own.cellAt (i*size+j) (by have:=Nat.mul_le_mul_right size (show i+1<=rows.length from hi);rw [Nat.succ_mul] at this;omega)]
 exact flatten_get rows i j h.len hi hj
theorem Sl.range (h:Sl w e size (.slice (some ⟨g,0,none⟩) n cap) rows) (i:Nat) (hi:i < rows.length):w.rangeAt g (i*size) rows[i]:=fun j v hv=>by
 have hl:=h.len rows[i] (List.getElem_mem hi)
 have hj:j < size:=by have:=(List.getElem?_eq_some_iff.1 hv).1;omega
 rw [h.cell i j hi hj];exact hv
theorem Sl.fro (h:Sl w e size (.slice (some ⟨g,0,none⟩) n cap) rows) (j:Nat):w.frozen? ⟨g,j,none⟩=false:=by
 rcases h.own.2 with ⟨h',_⟩ | ⟨g',cap',cur,h',_,hg,_⟩
 ·simp at h'
 ·simp only [Value.slice.injEq,Option.some.injEq,Addr.mk.injEq,and_true] at h'
  obtain ⟨rfl,_⟩:=h'
  exact frozen_of_row w g j cur e hg
theorem Sl.n_eq (h:Sl w e size (.slice (some ⟨g,0,none⟩) n cap) rows):n=rows.length:=by
 rcases h.own.2 with ⟨h1,_⟩ | ⟨g',cap',cur,h1,_⟩
 ·simp at h1
 ·simp at h1;exact h1.2.1
theorem Sl.set (h:Sl w e size (.slice (some ⟨g,0,none⟩) n cap) rows) (i j:Nat) (u:Value) (hi:i < rows.length) (hj:j < size) :
  Sl (w.setCell ⟨g,i*size+j,none⟩ u) e size (.slice (some ⟨g,0,none⟩) n cap) (rows.set i (rows[i].set j u)):=by
 have hn:=h.n_eq
 subst hn
 have h1:=(h.own.stored (i*size+j) u).1
 rw [flatten_set rows i j u h.len hi hj] at h1
 refine ⟨by simpa using h1,?_⟩
 intro r hr
 rcases List.mem_or_eq_of_mem_set hr with hr | rfl
 ·exact h.len r hr
 ·simp [h.len rows[i] (List.getElem_mem hi)]
end
section
variable {P:Program}(w:World)
structure Grew (e:TypeId) (size:Nat) (v:Value) (w:World) (v':Value) (rows:List (List Value)) (w':World):Prop where
 sl:Sl w' e size v' rows
 by_:w.grownBy w' v.ownBlock
 at_:∀ k,v'.ownBlock=some k->w.heap.size<=k\/v.ownBlock=some k
theorem Grew.old {e:TypeId}{size:Nat}{v:Value}{w:World}{v':Value}{rows:List (List Value)}{w':World}(h:Grew e size v w v' rows w'){g:Nat}(hg:g < w.heap.size) (hv:v.ownBlock≠some g):w'.heap[g]? = w.heap[g]?:=
 h.by_.block g hg (fun x=>hv x.symm)
theorem Grew.fr {e:TypeId}{size:Nat}{v:Value}{a w:World}{v':Value}{rows:List (List Value)}{w':World}(h:Grew e size v w v' rows w'){S:Nat->Prop}(hf:Fr S a w) (hs:∀ k,v.ownBlock=some k->k < a.heap.size->S k):Fr S a w':=
 ⟨h.by_.os.trans hf.os,h.by_.tape.trans hf.tape,h.by_.output.trans hf.output,Nat.le_trans hf.size h.by_.size,fun k hk hn=>
  (h.by_.block k (Nat.lt_of_lt_of_le hk hf.size) (fun x=>hn (hs k x.symm hk))).trans (hf.block k hk hn)⟩
theorem run_append_sl (t ty e:TypeId) (i:TypeInfo) (z:Value) (size bytes:Nat) (ht:P.underlying t=some (.slice e)) (hi:P.info? e=some i) (hz:i.zero=some z)
  (hsize:i.size=size) (hby:i.bytes=bytes) (hzs:z.cells.size=size) (hsz:0 < size)
  (v:Value) (rows:List (List Value)) (hown:Sl w e size v rows)
  (a:Addr) (m c:Nat) (news:List (List Value)) (hm:news.length=m) (hm0:0 < m) (hl:∀ r∈news,r.length=size) (hnews:∀ j u,news.flatten[j]? = some u->w.cell? (a.add j)=some u) (h1:∀ u∈news.flatten,u.oneCell'=true)
  (h63:rows.length+m<=maxLen) (hbytes:(rows.length+m)*bytes<=140737488355328) :
  ∃ a' c' w',(Builtin.append_ #[t,t] ty #[v,.slice (some a) m c]).run P w=.ok (.slice a' (rows.length+m) c') w'/\Grew e size v w (.slice a' (rows.length+m) c') (rows ++ news) w':=by
 subst hby
 subst hm
 have hfl:news.flatten.length=news.length*size:=flatten_len news hl
 obtain ⟨v',w',hr,hO,hG,_⟩:=run_append_own (P:=P) w 0 t ty e i z size i.bytes ht hi hz hsize rfl hzs hsz v rows.length rows.flatten hown.own a news.length c news.flatten hfl hnews h1 h63 hbytes (Nat.zero_le _)
 obtain ⟨a',c',rfl⟩:=owns_slice hO
 refine ⟨a',c',w',hr,⟨⟨by simpa using hO,?_⟩,hG,?_⟩⟩
 ·intro r hr
  rcases List.mem_append.1 hr with h | h
  ·exact hown.len r h
  ·exact hl r h
 ·rcases hown.own.2 with ⟨rfl,hn0⟩ | ⟨g,cap,cur,rfl,hbg,hg,hnc,hcm,hcs,htake⟩
  ·have hr2:=run_append_nil (P:=P) w t ty e i z ht hi hz a news.length c news.flatten (by rw [hfl,hsize]) hnews hm0 (by simp only [maxLen] at h63;omega) (by rw [hn0,Nat.zero_add] at hbytes;omega)
   rw [hr2] at hr
   simp only [Result.ok.injEq,Value.slice.injEq] at hr
   obtain ⟨⟨rfl,_⟩,_⟩:=hr
   intro k hk
   simp [Value.ownBlock] at hk;left;omega
  ·by_cases hroom:rows.length+news.length<=cap
   ·have hfit:rows.length*i.size+news.flatten.length<=cur.size:=by rw [hfl,hcs,hsize,<- Nat.add_mul];exact Nat.mul_le_mul_right _ hroom
    have hr2:=run_append_room (P:=P) w t ty e i ht hi g rows.length cap cur hg a news.length c news.flatten (by rw [hfl,hsize]) hnews h1 hroom hfit
    rw [hr2] at hr
    simp only [Result.ok.injEq,Value.slice.injEq] at hr
    obtain ⟨⟨rfl,_⟩,_⟩:=hr
    intro k hk
    simp [Value.ownBlock] at hk ⊢;right;omega
   ·have holds:∀ j u,rows.flatten[j]? = some u->w.cell? ((⟨g,0,none⟩:Addr).add j)=some u:=hown.own.cells (g:=g) rfl
    have hr2:=run_append_grow (P:=P) w t ty e i z ht hi hz ⟨g,0,none⟩ rows.length cap rows.flatten (by rw [flatten_len rows hown.len,hsize]) holds a news.length c news.flatten (by rw [hfl,hsize]) hnews (by omega) (by simp only [maxLen] at h63;omega) (growslice_fits (by omega) hbytes)
    rw [hr2] at hr
    simp only [Result.ok.injEq,Value.slice.injEq] at hr
    obtain ⟨⟨rfl,_⟩,_⟩:=hr
    intro k hk
    simp [Value.ownBlock] at hk;left;omega
theorem wpList_append_sl {ops:Array Oper}{rest:List Oper}{o:Oper}{ac:Act}{Q:Exit->Act->World->Prop}(hgd:o.guard=none) (s x:Operand) (t:TypeId)
  (ho:o.op=.call { callee:=.builtin .append,args:=#[s,x],argTypes:=#[t,t] })
  (e:TypeId) (i:TypeInfo) (z:Value) (size bytes:Nat) (ht:P.underlying t=some (.slice e)) (hi:P.info? e=some i) (hz:i.zero=some z)
  (hsize:i.size=size) (hby:i.bytes=bytes) (hzs:z.cells.size=size) (hsz:0 < size)
  (v:Value) (rows:List (List Value)) (hs:ac.eval s=v) (hown:Sl w e size v rows)
  (a:Addr) (m c:Nat) (news:List (List Value)) (hx:ac.eval x=.slice (some a) m c) (hm:news.length=m) (hm0:0 < m) (hl:∀ r∈news,r.length=size) (hnews:∀ j u,news.flatten[j]? = some u->w.cell? (a.add j)=some u) (h1:∀ u∈news.flatten,u.oneCell'=true)
  (h63:rows.length+m<=maxLen) (hbytes:(rows.length+m)*bytes<=140737488355328)
  (h:∀ a' c' w',Grew e size v w (.slice a' (rows.length+m) c') (rows ++ news) w'->wpList P ops Q rest (ac.put o.dst (.slice a' (rows.length+m) c')) w'):wpList P ops Q (o :: rest) ac w:=by
 obtain ⟨a',c',w',hr,hG⟩:=run_append_sl (P:=P) w t o.type e i z size bytes ht hi hz hsize hby hzs hsz v rows hown a m c news hm hm0 hl hnews h1 h63 hbytes
 refine wpList_plain hgd fun _ hK=>?_
 unfold Oper.wp execOp
 simp only [ho,resolve,invoke,builtin,Sem.run_bind,Sem.run_pure,Result.andThen_ok,List.map_toArray,List.map_cons,List.map_nil,hs,hx,hr]
 exact hK _ _ (h a' c' w' hG)
theorem step_append_sl {ops:Array Oper}{o:Oper}{ac:Act}{K:Act->World->Prop}{Q:Exit->Act->World->Prop}{E:Prop}(hgd:o.guard=none) (s x:Operand) (t:TypeId)
  (ho:o.op=.call { callee:=.builtin .append,args:=#[s,x],argTypes:=#[t,t] })
  (e:TypeId) (i:TypeInfo) (z:Value) (size bytes:Nat) (ht:P.underlying t=some (.slice e)) (hi:P.info? e=some i) (hz:i.zero=some z)
  (hsize:i.size=size) (hby:i.bytes=bytes) (hzs:z.cells.size=size) (hsz:0 < size)
  (v:Value) (rows:List (List Value)) (hs:ac.eval s=v) (hown:Sl w e size v rows)
  (a:Addr) (m c:Nat) (news:List (List Value)) (hx:ac.eval x=.slice (some a) m c) (hm:news.length=m) (hm0:0 < m) (hl:∀ r∈news,r.length=size) (hnews:∀ j u,news.flatten[j]? = some u->w.cell? (a.add j)=some u) (h1:∀ u∈news.flatten,u.oneCell'=true)
  (h63:rows.length+m<=maxLen) (hbytes:(rows.length+m)*bytes<=140737488355328)
  (h:∀ a' c' w',Grew e size v w (.slice a' (rows.length+m) c') (rows ++ news) w'->K (ac.put o.dst (.slice a' (rows.length+m) c')) w') :
  if Region.wanted o (yielded ops ac.tmps)=true then Oper.wp P o ac w K Q else E:=by
 obtain ⟨a',c',w',hr,hG⟩:=run_append_sl (P:=P) w t o.type e i z size bytes ht hi hz hsize hby hzs hsz v rows hown a m c news hm hm0 hl hnews h1 h63 hbytes
 have hw:Region.wanted o (yielded ops ac.tmps)=true:=by simp [Region.wanted,hgd]
 rw [if_pos hw]
 unfold Oper.wp
 simp [execOp,ho,resolve,invoke,builtin,hs,hx,hr,Result.andThen]
 exact h a' c' w' hG
end
theorem set5 {w:World}{g:Nat}{a0 a1 a2 a3 a4 b0 b1 b2 b3 b4:Value}{t:TypeId}(h:w.heap[g]? = some (.cells #[a0,a1,a2,a3,a4] t (0,0))) :
  (((((w.setCell ⟨g,0,none⟩ b0).setCell ⟨g,1,none⟩ b1).setCell ⟨g,2,none⟩ b2).setCell ⟨g,3,none⟩ b3).setCell ⟨g,4,none⟩ b4).heap[g]? = some (.cells #[b0,b1,b2,b3,b4] t (0,0)):=by
 have h0:=heap_setCell_same w g 0 _ t b0 h
 have h1:=heap_setCell_same _ g 1 _ t b1 h0
 have h2:=heap_setCell_same _ g 2 _ t b2 h1
 have h3:=heap_setCell_same _ g 3 _ t b3 h2
 have h4:=heap_setCell_same _ g 4 _ t b4 h3
 exact h4
theorem cells5 {w:World}{g:Nat}{a0 a1 a2 a3 a4:Value}{t:TypeId}(h:w.heap[g]? = some (.cells #[a0,a1,a2,a3,a4] t (0,0))) :
  (w.cell? ⟨g,0,none⟩=some a0/\w.cell? ⟨g,1,none⟩=some a1/\w.cell? ⟨g,2,none⟩=some a2/\w.cell? ⟨g,3,none⟩=some a3/\w.cell? ⟨g,4,none⟩=some a4)/\(∀ j,w.frozen? ⟨g,j,none⟩=false):=
 ⟨⟨(cell_of_row w g 0 _ _ _ h).trans rfl,(cell_of_row w g 1 _ _ _ h).trans rfl,(cell_of_row w g 2 _ _ _ h).trans rfl,(cell_of_row w g 3 _ _ _ h).trans rfl,(cell_of_row w g 4 _ _ _ h).trans rfl⟩,fun j=>frozen_of_row w g j _ _ h⟩
open Go.RowKit
open Go.RowKit
theorem Sl.row {w:World}{e:TypeId}{size g n cap:Nat}{rows:List (List Value)}(h:Sl w e size (.slice (some ⟨g,0,none⟩) n cap) rows){i:Nat}{r:List Value}(hr:rows[i]? = some r):w.rangeAt g (i*size) r:=by
 obtain ⟨hi,e⟩:=List.getElem?_eq_some_iff.1 hr
 rw [<- e];exact h.range i hi
open Go.RowKit
structure Inl (w:World) (size:Nat) (v:Value) (rows:List (List Value)):Prop where
 len:∀ r∈rows,r.length=size
 one:∀ r∈rows,∀ u∈r,u.oneCell'=true
 form:∃ a c,v=.slice a rows.length c/\rows.length<=maxLen/\(rows=[]\/∃ b off,a=some ⟨b,off,none⟩/\w.rangeAt b off rows.flatten)
theorem Inl.slice {w:World}{size:Nat}{v:Value}{rows:List (List Value)}(h:Inl w size v rows):∃ a c,v=.slice a rows.length c:=by
 obtain ⟨a,c,h,_⟩:=h.form;exact ⟨a,c,h⟩
theorem rangeAt_cells {w w':World}{b off:Nat}{cs:List Value}(h:w.rangeAt b off cs) (he:w'.heap[b]? = w.heap[b]?):w'.rangeAt b off cs:=fun j v hv=>by
 rw [World.cell?_of_block (w:=w) (a:=⟨b,off+j,none⟩) he];exact h j v hv
def inBlock:Value->Option Nat
 | .slice (some a) (_+1) _=>some a.block
 | _=>none
theorem Inl.kept {w w':World}{size:Nat}{v:Value}{rows:List (List Value)}(h:Inl w size v rows) (hs:0 < size){S:Nat->Prop}(hf:Fr S w w') (hn:∀ k,inBlock v=some k->¬ S k):Inl w' size v rows:=by
 obtain ⟨a,c,rfl,hm,hr⟩:=h.form
 refine ⟨h.len,h.one,a,c,rfl,hm,?_⟩
 rcases hr with rfl | ⟨b,off,rfl,hr⟩
 ·exact .inl rfl
 ·cases rows with
  | nil=>exact .inl rfl
  | cons r rs=>
   refine .inr ⟨b,off,rfl,?_⟩
   have hlr:=h.len r (by simp)
   have hlt:b < w.heap.size:=by
    cases r with
    | nil=>simp at hlr;omega
    | cons u t=>exact block_lt_of_cell (a:=⟨b,off+0,none⟩) (hr 0 u (by simp))
   exact rangeAt_cells hr (hf.block b hlt (hn b rfl))
theorem Inl.below {w w':World}{size:Nat}{v:Value}{rows:List (List Value)}(h:Inl w size v rows) (hs:0 < size) (hb:Below w.heap.size w w'):Inl w' size v rows:=
 h.kept hs (Fr.of_below hb (fun _=>False)) (fun _ _ h=>h)
theorem Inl.alloc {w:World}{size:Nat}{v:Value}{rows:List (List Value)}(h:Inl w size v rows) (hs:0 < size) (o:Obj):Inl (w.alloc o) size v rows:=
 h.kept hs ((Fr.refl (fun _=>False) w).alloc o) (fun _ _ h=>h)
theorem Inl.row {w:World}{size:Nat}{a:Option Addr}{n c:Nat}{rows:List (List Value)}(h:Inl w size (.slice a n c) rows){k:Nat}{r:List Value}(hk:rows[k]? = some r):∃ b off,a=some ⟨b,off,none⟩/\w.rangeAt b (off+k*size) r:=by
 obtain ⟨a',c',e,hm,hr⟩:=h.form
 simp only [Value.slice.injEq] at e
 obtain ⟨rfl,rfl,rfl⟩:=e
 obtain ⟨hi,e⟩:=List.getElem?_eq_some_iff.1 hk
 rcases hr with rfl | ⟨b,off,rfl,hr⟩
 ·simp at hi
 ·refine ⟨b,off,rfl,fun j v hv=>?_⟩
  have hl:=h.len r (by rw [<- e];exact List.getElem_mem hi)
  have hj:j < size:=by have:=(List.getElem?_eq_some_iff.1 hv).1;omega
  have:=hr (k*size+j) v (by rw [flatten_get rows k j h.len hi hj,e];exact hv)
  rwa [<- Nat.add_assoc] at this
theorem Sl.there {w:World}{e:TypeId}{size g n cap:Nat}{rows:List (List Value)}(h:Sl w e size (.slice (some ⟨g,0,none⟩) n cap) rows) (i:Nat) (hi:i < rows.length):w.there g (i*size) size:=by
 have hn:=h.n_eq
 subst hn
 exact owns_there h.own _ _ (by have:=Nat.mul_le_mul_right size (show i+1<=rows.length from hi);rw [Nat.succ_mul] at this;omega)
section
variable {P:Program}(w:World)
end
section
variable {P:Program}(w:World)
end
theorem wpList_store_new {P:Program}{ops:Array Oper}{rest:List Oper}{o:Oper}{a:Act}{Q:Exit->Act->World->Prop}(hgd:o.guard=none) (ty:TypeId) (x y:Operand) (ho:o.op=.store ty x y)
  (w0:World) (old cells:Array Value) (t:TypeId) (hx:a.eval x=.pointer (some ⟨w0.heap.size,0,none⟩)) (hy:a.eval y=.agg cells) (hi:(P.info? ty).map (·.size)=some cells.size) (hold:old.size=cells.size) (h1:cells.all (·.oneCell')=true)
  (h:wpList P ops Q rest (a.put o.dst undef) (w0.alloc (.cells cells t))):wpList P ops Q (o :: rest) a (w0.alloc (.cells old t)):=by
 refine wpList_store_row hgd ty x y ho w0.heap.size cells hx hy t old (heap_alloc_new w0 _) hi hold h1 ?_
 rw [World.setRow_alloc_new]
 exact h
open Go.RowKit
theorem Fr.join {S T:Nat->Prop}{a b c:World}(h:Fr S a b) (k:Fr T b c):Fr (fun x=>S x\/T x) a c:=
 (h.mono (fun _ _ h=>.inl h)).trans (k.mono (fun _ _ h=>.inr h))
theorem Inl.lt {w:World}{size:Nat}{v:Value}{rows:List (List Value)}(h:Inl w size v rows) (hs:0 < size) (hr:rows≠[]){k:Nat}(hk:inBlock v=some k):k < w.heap.size:=by
 obtain ⟨a,c,rfl,hm,hr'⟩:=h.form
 rcases hr' with rfl | ⟨b,off,rfl,hra⟩
 ·exact absurd rfl hr
 ·cases rows with
  | nil=>exact absurd rfl hr
  | cons r rs=>
   simp only [List.length_cons,inBlock,Option.some.injEq] at hk
   subst hk
   have hlr:=h.len r (by simp)
   cases r with
   | nil=>simp at hlr;omega
   | cons u t=>exact block_lt_of_cell (a:=⟨b,off+0,none⟩) (hra 0 u (by simp))
open Go.RowKit
def lnRow (t:Nat):List Value:=[.int .i64 t]
theorem Tryz.infoN3:(Tryz.prog.info? 3).map (fun i=>(i.zero,i.size,i.bytes))=some (some (.int .i64 0),1,8):=by kernel_rfl
theorem index_any (v:Value) (l:List Nat) (x:Nat) (w:World) (hs:Sl w 3 1 v (l.map lnRow)) (hl:l.length<=1000) :
  Calls Tryz.prog 159 #[v,.int .i64 x] w fun e w'=>∃ r:Int,e=.returned (.int .i64 r)/\((r=-1/\x ∉ l)\/∃ i:Nat,r=i/\l[i]? = some x)/\w'=w:=by
 obtain ⟨a,c,ev⟩:=hs.slice
 rw [List.length_map] at ev
 subst ev
 obtain ⟨m,hn'⟩:∃ m,l.length=m:=⟨_,rfl⟩
 rw [hn'] at hs hl ⊢
 have HS:=hid hs
 have HN:=hid hn'
 clear hs hn'
 go_enter Tryz.func159,Tryz.ntmps159
 go_wp2
 go_loop [8] (fun i=>∃ k:Nat,k<=m/\i=.int .i64 k/\Hid (∀ (i:Nat) p,i < k->l[i]? = some p->p≠x)) (fun i=>m-(intOf i).toNat)
 case atStart=>exact ⟨0,Nat.zero_le _,rfl,fun i p h=>absurd h (by omega)⟩
 case round=>
  obtain ⟨k,hk,rfl,hno⟩:=hrel
  by_cases hlt:k < m
  ·obtain ⟨p,hp⟩:∃ p,l[k]? = some p:=⟨_,List.getElem?_eq_getElem (by have:=HN.out;omega)⟩
   obtain ⟨g,ea,hx⟩:=HS.out.is_some (by omega)
   clear hx
   subst ea
   have r1:=HS.out.row (i:=k) (r:=[.int .i64 p]) (by rw [List.getElem?_map,hp];rfl)
   have g0:=r1 0 (.int .i64 p) rfl
   simp only [Nat.add_zero,Nat.mul_one] at g0
   have HP:=hid hp
   clear r1 hp
   by_cases f0:p=x
   ·have d0:((x:Int) == (p:Int))=true:=by simp [f0]
    have F:=hid f0
    clear f0
    go_wp2
    go_ret
    exact ⟨_,rfl,.inr ⟨k,rfl,F.out ▸ HP.out⟩,rfl⟩
   ·have d0:((x:Int) == (p:Int))=false:=by simp;omega
    have F:=hid f0
    clear f0
    go_wp2
    refine ⟨⟨k+1,by omega,by go_num,?_⟩,by simp [intOf];omega⟩
    intro i q hi hq
    by_cases e:i < k
    ·exact hno.out i q e hq
    ·have:i=k:=by omega
     subst this
     have:=HP.out
     rw [this] at hq;cases hq
     exact F.out
  ·go_wp2
   go_ret
   refine ⟨_,rfl,.inl ⟨rfl,fun hm=>?_⟩,rfl⟩
   obtain ⟨i,hi⟩:=List.mem_iff_getElem?.1 hm
   exact hno.out i x (by have:=(List.getElem?_eq_some_iff.1 hi).1;have:=HN.out;omega) hi rfl
theorem flat_take:∀ (rows:List (List Value)) (k:Nat),(∀ r∈rows,r.length=1)->(rows.take k).flatten=rows.flatten.take k
 | [],k,_=>by simp
 | r :: rs,0,_=>by simp
 | r :: rs,k+1,h=>by
  have hr:=h r (by simp)
  obtain ⟨v,rfl⟩:∃ v,r=[v]:=by
   match r,hr with
   | [v],_=>exact ⟨v,rfl⟩
  simp [flat_take rs k (fun r hr=>h r (by simp [hr]))]
theorem flat_drop:∀ (rows:List (List Value)) (k:Nat),(∀ r∈rows,r.length=1)->(rows.drop k).flatten=rows.flatten.drop k
 | [],k,_=>by simp
 | r :: rs,0,_=>by simp
 | r :: rs,k+1,h=>by
  have hr:=h r (by simp)
  obtain ⟨v,rfl⟩:∃ v,r=[v]:=by
   match r,hr with
   | [v],_=>exact ⟨v,rfl⟩
  simp [flat_drop rs k (fun r hr=>h r (by simp [hr]))]
section
variable {P:Program}(w:World)
theorem run_delete (t ty e:TypeId) (i0:TypeInfo) (ht:P.underlying t=some (.slice e)) (hi:P.info? e=some i0) (hsize:i0.size=1) (g n cap:Nat) (rows:List (List Value)) (hs:Sl w e 1 (.slice (some ⟨g,0,none⟩) n cap) rows)
  (h1:∀ r∈rows,∀ u∈r,u.oneCell'=true) (i:Nat) (hin:i < n) (a:Addr) (c:Nat) (ha:i+1 < n->a=⟨g,i+1,none⟩) :
  ∃ w1,(Builtin.append_ #[t,t] ty #[.slice (some ⟨g,0,none⟩) i cap,.slice (some a) (n-(i+1)) c]).run P w=.ok (.slice (some ⟨g,0,none⟩) (n-1) cap) w1 /\
   Sl w1 e 1 (.slice (some ⟨g,0,none⟩) (n-1) cap) (rows.eraseIdx i)/\w.grownBy w1 (some g)/\(∃ u,w1.cell? ⟨g,n-1,none⟩=some u)/\w1.frozen? ⟨g,n-1,none⟩=false:=by
 have hn:=hs.n_eq
 have hfl:=flatten_len rows hs.len
 rcases hs.own.2 with ⟨hx,_⟩ | ⟨g',cap',cur,hx,_,hg,h3,h4,h5,h6⟩
 ·simp at hx
 ·simp only [Value.slice.injEq,Option.some.injEq,Addr.mk.injEq,and_true] at hx
  obtain ⟨rfl,_,rfl⟩:=hx
  rw [<- hn] at h3 h6
  rw [Nat.mul_one] at h5 h6 hfl
  have hnl:(rows.flatten.drop (i+1)).length=n-(i+1):=by rw [List.length_drop,hfl,hn]
  have hcell:∀ (j:Nat) (u:Value),j < n->rows.flatten[j]? = some u->w.cell? ⟨g,j,none⟩=some u:=by
   intro j u hj hu
   rw [cell_of_row w g j _ _ _ hg]
   rw [<- h6,List.getElem?_take_of_lt hj] at hu
   simpa using hu
  have hnews:∀ (j:Nat) (u:Value),(rows.flatten.drop (i+1))[j]? = some u->w.cell? (a.add j)=some u:=by
   intro j u hu
   have hj:j < (rows.flatten.drop (i+1)).length:=(List.getElem?_eq_some_iff.1 hu).1
   rw [hnl] at hj
   rw [ha (by omega)]
   rw [List.getElem?_drop] at hu
   rw [Addr.add_mid]
   exact hcell (i+1+j) u (by omega) hu
  have hone:∀ u∈rows.flatten.drop (i+1),u.oneCell'=true:=by
   intro u hu
   obtain ⟨r,hr,hur⟩:=List.mem_flatten.1 (List.mem_of_mem_drop hu)
   exact h1 r hr u hur
  have hr:=run_append_room (P:=P) w t ty e i0 ht hi g i cap cur hg a (n-(i+1)) c (rows.flatten.drop (i+1)) (by rw [hnl,hsize,Nat.mul_one]) hnews hone (by omega) (by rw [hnl,hsize,Nat.mul_one];omega)
  rw [hsize,Nat.mul_one,hnl,show i+(n-(i+1))=n-1 by omega] at hr
  have hcl:cur.toList.length=cap:=by rw [Array.length_toList,h5]
  refine ⟨_,hr,⟨⟨?_,.inr ⟨g,cap,_,?_,Nat.zero_le _,setRow_heap w g cur _ e _ hg,?_,h4,?_,?_⟩⟩,fun r hr=>hs.len r (List.mem_of_mem_eraseIdx hr)⟩,grown_setRow w g _,?_,?_⟩
  ·rw [flatten_len (rows.eraseIdx i) (fun r hr=>hs.len r (List.mem_of_mem_eraseIdx hr))]
  ·rw [List.length_eraseIdx_of_lt (by omega),<- hn]
  ·rw [List.length_eraseIdx_of_lt (by omega),<- hn];omega
  ·rw [Nat.mul_one,List.size_toArray,List.length_append,List.length_append,hnl,List.length_take,List.length_drop,hcl];omega
  ·rw [List.length_eraseIdx_of_lt (by omega),<- hn,Nat.mul_one,List.eraseIdx_eq_take_drop_succ,List.flatten_append,flat_take rows i hs.len,flat_drop rows (i+1) hs.len]
   show List.take (n-1) (List.take i cur.toList ++ rows.flatten.drop (i+1) ++ List.drop (n-1) cur.toList)=_
   have e1:List.take i cur.toList=rows.flatten.take i:=by rw [<- h6,List.take_take,Nat.min_eq_left (by omega)]
   rw [e1,List.take_append_of_le_length (by rw [List.length_append,hnl,List.length_take,hfl,<- hn];omega)]
   rw [List.take_of_length_le (by rw [List.length_append,hnl,List.length_take,hfl,<- hn];omega)]
  ·rw [cell_of_row _ g (n-1) _ _ _ (setRow_heap w g cur _ e _ hg)]
   refine ⟨_,Array.getElem?_eq_getElem ?_⟩
   rw [List.size_toArray,List.length_append,List.length_append,hnl,List.length_take,List.length_drop,hcl];omega
  ·unfold World.frozen?
   rw [setRow_heap w g cur _ e _ hg]
   simp
theorem step_delete {ops:Array Oper}{o:Oper}{ac:Act}{K:Act->World->Prop}{Q:Exit->Act->World->Prop}{E:Prop}(hgd:o.guard=none) (s x:Operand) (t:TypeId)
  (ho:o.op=.call { callee:=.builtin .append,args:=#[s,x],argTypes:=#[t,t] }) (e:TypeId) (i0:TypeInfo) (ht:P.underlying t=some (.slice e)) (hi:P.info? e=some i0) (hsize:i0.size=1) (g n cap:Nat) (rows:List (List Value)) (hs:Sl w e 1 (.slice (some ⟨g,0,none⟩) n cap) rows)
  (h1:∀ r∈rows,∀ u∈r,u.oneCell'=true) (i:Nat) (hin:i < n) (a:Addr) (m c:Nat) (hm:m=n-(i+1)) (ha:i+1 < n->a=⟨g,i+1,none⟩) (hsv:ac.eval s=.slice (some ⟨g,0,none⟩) i cap) (hxv:ac.eval x=.slice (some a) m c)
  (h:∀ w1,Sl w1 e 1 (.slice (some ⟨g,0,none⟩) (n-1) cap) (rows.eraseIdx i)/\w.grownBy w1 (some g)/\(∃ u,w1.cell? ⟨g,n-1,none⟩=some u)/\w1.frozen? ⟨g,n-1,none⟩=false->K (ac.put o.dst (.slice (some ⟨g,0,none⟩) (n-1) cap)) w1) :
  if Region.wanted o (yielded ops ac.tmps)=true then Oper.wp P o ac w K Q else E:=by
 subst hm
 obtain ⟨w1,hr,hG⟩:=run_delete (P:=P) w t o.type e i0 ht hi hsize g n cap rows hs h1 i hin a c ha
 have hw:Region.wanted o (yielded ops ac.tmps)=true:=by simp [Region.wanted,hgd]
 rw [if_pos hw]
 unfold Oper.wp
 simp [execOp,ho,resolve,invoke,builtin,hsv,hxv,hr,Result.andThen]
 exact h w1 hG
theorem wpList_clear1 {ops:Array Oper}{rest:List Oper}{o:Oper}{ac:Act}{Q:Exit->Act->World->Prop}(hgd:o.guard=none) (s:Operand) (t:TypeId)
  (ho:o.op=.call { callee:=.builtin .clear,args:=#[s],argTypes:=#[t] }) (e:TypeId) (z:Value) (ht:P.underlying t=some (.slice e)) (hv:∀ w,(zeroValue e).run P w=.ok z w) (hz:z.cells=#[z]) (h1:z.oneCell'=true) (g b m c:Nat) (hm:m=1) (hsv:ac.eval s=.slice (some ⟨g,b,none⟩) m c)
  (hc:∃ u,w.cell? ⟨g,b,none⟩=some u) (hf:w.frozen? ⟨g,b,none⟩=false)
  (h:wpList P ops Q rest (ac.put o.dst (.tuple #[])) (w.setCells g b [z])):wpList P ops Q (o :: rest) ac w:=by
 subst hm
 obtain ⟨u,hu⟩:=hc
 have hcc:∀ j,j < 1->(w.cell? ⟨g,b+j,none⟩).isSome=true:=by
  intro j hj
  obtain rfl:j=0:=by omega
  simp [hu]
 have hff:∀ j,j < 1->w.frozen? ⟨g,b+j,none⟩=false:=by
  intro j hj
  obtain rfl:j=0:=by omega
  simpa using hf
 have hr:=Go.Lib.run_clear_slice (P:=P) w t e o.type z ht hv hz h1 g b 1 c (by omega) hcc hff
 refine wpList_plain hgd fun K hK=>?_
 unfold Oper.wp
 simp [execOp,ho,resolve,invoke,builtin,hsv,hr,Result.andThen]
 exact hK _ _ h
end
open Go.RowKit
theorem Tryz.zero3 (w:World):(zeroValue 3).run Tryz.prog w=.ok (.int .i64 0) w:=by kernel_rfl
theorem ln_one (l:List Nat):∀ r∈l.map lnRow,∀ u∈r,u.oneCell'=true:=by
 intro r hr u hu
 obtain ⟨t,_,rfl⟩:=List.mem_map.1 hr
 simp [lnRow] at hu
 subst hu
 rfl
theorem del_end {w w1:World}{g n cap i:Nat}{l:List Nat}(h:Sl w1 3 1 (.slice (some ⟨g,0,none⟩) n cap) ((l.map lnRow).eraseIdx i)) (hg:w.grownBy w1 (some g)) :
  Ending.returned (.slice (some ⟨g,0,none⟩) n cap)=.returned (.slice (some ⟨g,0,none⟩) n cap)/\Sl (w1.setCells g n [.int .i64 0]) 3 1 (.slice (some ⟨g,0,none⟩) n cap) ((l.eraseIdx i).map lnRow)/\w.grownBy (w1.setCells g n [.int .i64 0]) (some g):=by
 have hn:=h.n_eq
 have e:(l.map lnRow).eraseIdx i=(l.eraseIdx i).map lnRow:=by simp [List.eraseIdx_eq_take_drop_succ]
 rw [e] at h hn
 subst hn
 have h2:=setCells_owns [.int .i64 0] ((l.eraseIdx i).map lnRow).length w1 _ h.own
 have hl:=flatten_len ((l.eraseIdx i).map lnRow) h.len
 have e2:setAt ((l.eraseIdx i).map lnRow).flatten ((l.eraseIdx i).map lnRow).length [.int .i64 0]=((l.eraseIdx i).map lnRow).flatten:=by
  simp only [setAt]
  rw [List.set_eq_of_length_le (by rw [hl];omega)]
 rw [e2] at h2
 refine ⟨rfl,⟨h2.1,h.len⟩,?_⟩
 have a:=hg
 have b:=h2.2
 exact ⟨b.os.trans a.os,b.tape.trans a.tape,b.output.trans a.output,Nat.le_trans a.size b.size,fun k hk hne=>(b.block k (Nat.lt_of_lt_of_le hk a.size) hne).trans (a.block k hk hne)⟩
theorem delete_any (g n cap:Nat) (l:List Nat) (i:Nat) (w:World) (hs:Sl w 3 1 (.slice (some ⟨g,0,none⟩) n cap) (l.map lnRow)) (hl:n<=1000) (hi:i < n) (hcap:n<=cap) (hcm:cap<=9223372036854775807) :
  Calls Tryz.prog 160 #[.slice (some ⟨g,0,none⟩) n cap,.int .i64 i,.int .i64 (i+1)] w fun e w'=>e=.returned (.slice (some ⟨g,0,none⟩) (n-1) cap)/\Sl w' 3 1 (.slice (some ⟨g,0,none⟩) (n-1) cap) ((l.eraseIdx i).map lnRow)/\w.grownBy w' (some g):=by
 obtain ⟨i0,hi0,hz0,hz1,hz2⟩:=info_parts Tryz.infoN3
 have HS:=hid hs
 have hz:=Tryz.zero3
 have b1:((i:Int) == (i:Int)+1)=false:=by simp;omega
 clear hs
 by_cases hc:cap=i+1
 ·have hn:n=i+1:=by omega
  subst hc hn
  have q1:(i:Int)<=(i:Int)+1:=by omega
  have q4:0<=(i:Int)+1:=by omega
  go_enter Tryz.func160,Tryz.ntmps160
  go_wp2_with fail
  go_region_law (refine step_delete _ rfl (.tmp 22) (.tmp 25) 24 rfl 3 i0 Tryz.underlying24 hi0 hz1 g (i+1) (i+1) (l.map lnRow) HS.out.drew (ln_one l) i (by omega) ⟨g,0,none⟩ 0 0 (by omega) (fun h=>absurd h (by omega)) (by simp [Act.eval,Act.put]) (by simp [Act.eval,Act.put]) ?_;intro w1 HG;rw [Nat.add_sub_cancel] at HG;replace HG:=hid HG)
  all_goals
   have hcc:=HG.out.2.2.1
   have hff:=HG.out.2.2.2
   go_wp2_with (with_reducible (show wpList _ _ _ (⟨_,.call { callee:=.builtin .clear,args:=#[_],argTypes:=#[24] },_,_,_,none⟩ :: _) _ _);go_must (refine wpList_clear1 _ rfl (.tmp 31) 24 rfl 3 (.int .i64 0) Tryz.underlying24 hz rfl rfl g i 1 1 rfl (by simp [Act.eval]) hcc hff ?_))
   go_ret
   exact del_end HG.out.1 ⟨HG.out.2.1.os,HG.out.2.1.tape,HG.out.2.1.output,HG.out.2.1.size,HG.out.2.1.block⟩
 ·have q1:i<=cap:=by omega
  have q2:(i:Int)+1<=(n:Int):=by omega
  have q3:i+1<=n:=by omega
  have q4:0<=(i:Int)+1:=by omega
  have q5:((i:Int)+1).toNat=i+1:=by omega
  go_enter Tryz.func160,Tryz.ntmps160
  go_wp2_with fail
  go_region_law (refine step_delete _ rfl (.tmp 22) (.tmp 25) 24 rfl 3 i0 Tryz.underlying24 hi0 hz1 g n cap (l.map lnRow) HS.out.drew (ln_one l) i (by omega) ⟨g,i+1,none⟩ (n-(i+1)) (cap-(i+1)) (by omega) (fun _=>rfl) (by simp [Act.eval,Act.put]) (by simp [Act.eval,Act.put]) ?_;intro w1 HG;replace HG:=hid HG)
  all_goals
   have hcc:=HG.out.2.2.1
   have hff:=HG.out.2.2.2
   have q6:¬ cap=n-1:=by omega
   have q7:n-1<=n:=by omega
   go_wp2_with (with_reducible (show wpList _ _ _ (⟨_,.call { callee:=.builtin .clear,args:=#[_],argTypes:=#[24] },_,_,_,none⟩ :: _) _ _);go_must (refine wpList_clear1 _ rfl (.tmp 31) 24 rfl 3 (.int .i64 0) Tryz.underlying24 hz rfl rfl g (n-1) (n-(n-1)) (cap-(n-1)) (by omega) (by simp [Act.eval]) hcc hff ?_))
   go_ret
   exact del_end HG.out.1 ⟨HG.out.2.1.os,HG.out.2.1.tape,HG.out.2.1.output,HG.out.2.1.size,HG.out.2.1.block⟩
theorem erase_idx:∀ {l:List Nat}{i x:Nat},l[i]? = some x->l.Nodup->l.eraseIdx i=l.erase x
 | [],i,x,h,_=>by simp at h
 | y :: r,0,x,h,_=>by simp at h;subst h;simp
 | y :: r,i+1,x,h,hn=>by
  simp at h
  have hm:x∈r:=List.mem_of_getElem? h
  have hy:y≠x:=fun e=>(List.nodup_cons.1 hn).1 (e ▸ hm)
  rw [List.erase_cons_tail (by simpa using hy),List.eraseIdx_cons_succ,erase_idx h (List.nodup_cons.1 hn).2]
open Go.RowKit
theorem Sl.cap {w:World}{e:TypeId}{size g n cap:Nat}{rows:List (List Value)}(h:Sl w e size (.slice (some ⟨g,0,none⟩) n cap) rows):n<=cap/\cap<=maxLen:=by
 rcases h.own.2 with ⟨hx,_⟩ | ⟨g',cap',cur,hx,_,hg,h3,h4,h5,h6⟩
 ·simp at hx
 ·simp only [Value.slice.injEq,Option.some.injEq,Addr.mk.injEq,and_true] at hx
  obtain ⟨rfl,h,rfl⟩:=hx
  rw [<- h] at h3
  exact ⟨h3,h4⟩
theorem index_no (v:Value) (l:List Nat) (x:Nat) (w:World) (hs:Sl w 3 1 v (l.map lnRow)) (hl:l.length<=1000) (hx:x ∉ l) :
  Calls Tryz.prog 159 #[v,.int .i64 x] w fun e w'=>e=.returned (.int .i64 (-1))/\w'=w:=by
 refine (index_any v l x w hs hl).mono ?_
 rintro e w' ⟨r,rfl,hr,rfl⟩
 rcases hr with ⟨rfl,_⟩ | ⟨i,_,hi⟩
 ·exact ⟨rfl,rfl⟩
 ·exact absurd (List.mem_of_getElem? hi) hx
theorem index_yes (v:Value) (l:List Nat) (x i:Nat) (w:World) (hs:Sl w 3 1 v (l.map lnRow)) (hl:l.length<=1000) (hx:l[i]? = some x) (hn:l.Nodup) :
  Calls Tryz.prog 159 #[v,.int .i64 x] w fun e w'=>e=.returned (.int .i64 i)/\w'=w:=by
 refine (index_any v l x w hs hl).mono ?_
 rintro e w' ⟨r,rfl,hr,rfl⟩
 rcases hr with ⟨rfl,h⟩ | ⟨j,rfl,hi⟩
 ·exact absurd (List.mem_of_getElem? hx) h
 ·have h1:=(List.getElem?_eq_some_iff.1 hx).1
  have:i=j:=(List.getElem?_inj h1 hn).1 (hx.trans hi.symm)
  subst this
  exact ⟨rfl,rfl⟩
theorem set_same {cs:Array Value}{off:Nat}{v:Value}(h:cs[off]? = some v):cs.setIfInBounds off v=cs:=by
 obtain ⟨hi,rfl⟩:=Array.getElem?_eq_some_iff.1 h
 exact Array.ext_getElem? (fun j=>by
  rw [Array.getElem?_setIfInBounds]
  split
  ·rename_i e;subst e;simp [hi]
  ·rfl)
theorem leave_any (x off:Nat) (v:Value) (l:List Nat) (t:Nat) (cs:Array Value) (ty:TypeId) (w:World) (hb:w.heap[x]? = some (.cells cs ty (0,0))) (hv:cs[off]? = some v) (hs:Sl w 3 1 v (l.map lnRow)) (hl:l.length<=1000) (hn:l.Nodup) (hne:v.ownBlock≠some x) :
  Calls Tryz.prog 124 #[.pointer (some ⟨x,off,none⟩),.int .i64 t] w fun e w'=>e=.returned (.tuple #[])/\∃ v',w'.heap[x]? = some (.cells (cs.setIfInBounds off v') ty (0,0))/\Sl w' 3 1 v' ((l.erase t).map lnRow)/\Fr (fun k=>k=x\/v.ownBlock=some k) w w'/\v'.ownBlock=v.ownBlock:=by
 have hc:w.cell? ⟨x,off,none⟩=some v:=(cell_of_row w x off _ _ _ hb).trans hv
 have hf:w.frozen? ⟨x,off,none⟩=false:=frozen_of_row w x off _ _ hb
 obtain ⟨a,c,ev⟩:=hs.slice
 rw [List.length_map] at ev
 subst ev
 obtain ⟨m,hm⟩:∃ m,l.length=m:=⟨_,rfl⟩
 rw [hm] at hs hl hc hne hv
 have HA:=hid (And.intro hs (And.intro hb (And.intro hn (And.intro hm (And.intro hne hv)))))
 clear hs hb hn hne hv
 rw [hm]
 clear hm
 by_cases hnm:t∈l
 ·obtain ⟨i,hi⟩:=List.mem_iff_getElem?.1 hnm
  have HI:=hid hi
  have hil:i < m:=by rw [<- HA.out.2.2.2.1];exact (List.getElem?_eq_some_iff.1 hi).1
  clear hi hnm
  obtain ⟨g,ea,hx⟩:=HA.out.1.is_some (by omega)
  clear hx
  subst ea
  have hcp:=HA.out.1.cap
  have hc1:=hcp.1
  have hc2:c<=9223372036854775807:=by have:=hcp.2;unfold maxLen at this;omega
  clear hcp
  go_enter Tryz.func124,Tryz.ntmps124
  go_wp2_with (first
   | (go_at_call 159;refine (index_yes (.slice (some ⟨g,0,none⟩) m c) l t i _ ?_ ?_ ?_ ?_).mono ?_;exact HA.out.1;exact HA.out.2.2.2.1 ▸ hl;exact HI.out;exact HA.out.2.2.1;rintro e w1 ⟨rfl,rfl⟩)
   | (go_at_call 160;refine (delete_any g m c l i _ ?_ ?_ ?_ ?_ ?_).mono ?_;exact HA.out.1;exact hl;exact hil;exact hc1;exact hc2;rintro e w2 ⟨rfl,H2⟩;replace H2:=hid H2;have hf2:=frozen_of_row w2 x off _ _ ((H2.out.2.block x (Array.getElem?_eq_some_iff.1 HA.out.2.1).1 (fun h=>HA.out.2.2.2.2.1 h.symm)).trans HA.out.2.1);have hc3:=(cell_of_row w2 x off _ _ _ ((H2.out.2.block x (Array.getElem?_eq_some_iff.1 HA.out.2.1).1 (fun h=>HA.out.2.2.2.2.1 h.symm)).trans HA.out.2.1)).trans HA.out.2.2.2.2.2))
  go_end0
  have hb2:=(H2.out.2.block x (Array.getElem?_eq_some_iff.1 HA.out.2.1).1 (fun h=>HA.out.2.2.2.2.1 h.symm)).trans HA.out.2.1
  have F1:Fr (fun k=>k=x\/Value.ownBlock (.slice (some ⟨g,0,none⟩) m c)=some k) w1 w2:=(Fr.grown H2.out.2).mono (fun k _ h=>.inr (by simpa [Value.ownBlock] using h))
  have F2:Fr (fun k=>k=x) w2 (w2.setCell ⟨x,off,none⟩ (.slice (some ⟨g,0,none⟩) (m-1) c)):=(Fr.refl (fun k=>k=x) w2).setCell (p:=⟨x,off,none⟩) (fun _=>rfl) _
  refine ⟨rfl,.slice (some ⟨g,0,none⟩) (m-1) c,heap_setCell_same w2 x off cs ty _ hb2,?_,F1.trans (F2.mono (fun k _ h=>.inl h)),rfl⟩
  rw [<- erase_idx HI.out HA.out.2.2.1]
  exact H2.out.1.kept F2 (fun k hk h=>HA.out.2.2.2.2.1 (by rw [<- h];exact hk))
 ·have HN:=hid hnm
  clear hnm
  go_enter Tryz.func124,Tryz.ntmps124
  go_wp2_with (go_at_call 159;refine (index_no (.slice a m c) l t _ ?_ ?_ ?_).mono ?_;exact HA.out.1;exact HA.out.2.2.2.1 ▸ hl;exact HN.out;rintro e w1 ⟨rfl,rfl⟩)
  go_end0
  refine ⟨rfl,.slice a m c,?_,?_,Fr.refl _ _,rfl⟩
  ·rw [set_same HA.out.2.2.2.2.2];exact HA.out.2.1
  ·rw [List.erase_of_not_mem HN.out];exact HA.out.1
theorem comeLast_any (x off:Nat) (v:Value) (l:List Nat) (t:Nat) (cs:Array Value) (ty:TypeId) (w:World) (hb:w.heap[x]? = some (.cells cs ty (0,0))) (hv:cs[off]? = some v) (hs:Sl w 3 1 v (l.map lnRow)) (hl:l.length<=1000) (hn:l.Nodup) (hne:v.ownBlock≠some x) :
  Calls Tryz.prog 131 #[.pointer (some ⟨x,off,none⟩),.int .i64 t] w fun e w'=>e=.returned (.tuple #[])/\∃ v',w'.heap[x]? = some (.cells (cs.setIfInBounds off v') ty (0,0))/\Sl w' 3 1 v' ((l.erase t ++ [t]).map lnRow)/\Fr (fun k=>k=x\/v.ownBlock=some k) w w'/\∀ k,v'.ownBlock=some k->w.heap.size<=k\/v.ownBlock=some k:=by
 obtain ⟨i0,hi0,hz0,hz1,hz2⟩:=info_parts Tryz.infoN3
 have hbl:=(Array.getElem?_eq_some_iff.1 hb).1
 have hlo:off < cs.size:=(Array.getElem?_eq_some_iff.1 hv).1
 have HA:=hid (And.intro hs (And.intro hb (And.intro hn (And.intro hl (And.intro hne hv)))))
 clear hs hb hn hl hne hv
 go_enter Tryz.func131,Tryz.ntmps131
 go_wp2_with fail
 go_at_call 124
 refine (leave_any x off v l t cs ty _ HA.out.2.1 HA.out.2.2.2.2.2 HA.out.1 HA.out.2.2.2.1 HA.out.2.2.1 HA.out.2.2.2.2.1).mono ?_
 rintro e w1 ⟨rfl,v1,H1⟩
 have hsl:=H1.2.1.slice
 rw [List.length_map] at hsl
 obtain ⟨a1,c1,rfl⟩:=hsl
 obtain ⟨m,hm⟩:∃ m,(l.erase t).length=m:=⟨_,rfl⟩
 rw [hm] at H1
 have hml:m<=1000:=by (have:=HA.out.2.2.2.1;have:=List.length_erase_le (a:=t) (l:=l);omega)
 replace H1:=hid (And.intro H1 hm)
 clear hm
 have hc1:w1.cell? ⟨x,off,none⟩=some (.slice a1 m c1):=(cell_of_row w1 x off _ _ _ H1.out.1.1).trans (by simp [hlo])
 have hbl1:=(Array.getElem?_eq_some_iff.1 H1.out.1.1).1
 have n1:Hid (Value.ownBlock (.slice a1 m c1)≠some x):=(by rw [H1.out.1.2.2.2];exact HA.out.2.2.2.2.1)
 go_wp2_with (at_builtin;go_must (refine wpList_append_sl _ rfl _ _ 24 rfl 3 i0 _ 1 8 Tryz.underlying24 hi0 hz0 hz1 hz2 rfl (by decide) (.slice a1 m c1) ((l.erase t).map lnRow) rfl (H1.out.1.2.1.alloc _) ⟨w1.heap.size,0,none⟩ 1 1 [[.int .i64 t]] rfl rfl (by decide) (by simp) (fun j u h=>cell_news w1 #[.int .i64 t] 3 j u (by simpa using h)) (fun u hu=>by simp at hu;subst hu;rfl) (by have:=H1.out.2;rw [List.length_map];unfold maxLen;omega) (by have:=H1.out.2;rw [List.length_map];omega) ?_);intro a4 c4 w4 G4;have hb4:Hid (w4.heap[x]? = some (.cells (cs.setIfInBounds off (.slice a1 m c1)) ty (0,0))):=(G4.old (by simp;omega) n1.out).trans (((Fr.refl (fun _=>False) w1).alloc _).block _ hbl1 id |>.trans H1.out.1.1);have hc4:w4.cell? ⟨x,off,none⟩=some (.slice a1 m c1):=(cell_of_row w4 _ off _ _ _ hb4.out).trans (by simp [hlo]);have hf4:w4.frozen? ⟨x,off,none⟩=false:=frozen_of_row _ _ _ _ _ hb4.out)
 go_end0
 rw [List.length_map] at G4
 generalize hv4:Value.slice a4 ((l.erase t).length+1) c4=v4 at G4 ⊢
 have F4:Fr (fun k=>k=x\/v.ownBlock=some k) w1 w4:=G4.fr ((Fr.refl _ w1).alloc _) (fun k hk _=>.inr (by rw [<- H1.out.1.2.2.2];exact hk))
 have F5:Fr (fun k=>k=x) w4 (w4.setCell ⟨x,off,none⟩ v4):=(Fr.refl (fun k=>k=x) w4).setCell (p:=⟨x,off,none⟩) (fun _=>rfl) _
 have hn4:∀ k,v4.ownBlock=some k->w.heap.size<=k\/v.ownBlock=some k:=by
  intro k hk
  rcases G4.at_ k hk with h | h
  ·left
   have:=H1.out.1.2.2.1.size
   simp at h
   omega
  ·right;rw [<- H1.out.1.2.2.2];exact h
 refine ⟨rfl,v4,?_,?_,(H1.out.1.2.2.1.trans F4).trans (F5.mono (fun k _ h=>.inl h)),hn4⟩
 ·have:=heap_setCell_same w4 x off _ ty v4 hb4.out
  rwa [Array.setIfInBounds_setIfInBounds] at this
 ·have h:=G4.sl
  rw [List.map_append]
  exact h.kept F5 (fun k hk e=>by
   subst e
   rcases hn4 _ hk with h | h
   ·omega
   ·exact HA.out.2.2.2.2.1 h)
open Go.RowKit
def allB (_:Nat):Bool:=true
def ixq (q:Nat->Bool):List Nat->Nat->Int
 | [],_=>-1
 | y :: r,k=>if q y=true then (k:Int) else ixq q r (k+1)
theorem ixq_at {q:Nat->Bool}:∀ {l:List Nat}{k p:Nat}(j:Nat),l[k]? = some p->q p=true->(∀ (i:Nat) z,i < k->l[i]? = some z->q z=false)->ixq q l j=(j:Int)+(k:Int)
 | [],k,p,_,h,_,_=>by simp at h
 | y :: r,0,p,j,h,hq,_=>by simp at h;subst h;simp [ixq,hq]
 | y :: r,k+1,p,j,h,hq,hn=>by
  have h0:=hn 0 y (by omega) rfl
  have:=ixq_at (l:=r) (k:=k) (j+1) (by simpa using h) hq (fun i z hi hz=>hn (i+1) z (by omega) (by simpa using hz))
  simp only [ixq,h0]
  simp only [Bool.false_eq_true,if_false]
  omega
theorem ixq_none {q:Nat->Bool}:∀ {l:List Nat}(j:Nat),(∀ z∈l,q z=false)->ixq q l j=-1
 | [],_,_=>rfl
 | y :: r,j,h=>by
  simp only [ixq,h y (by simp)]
  exact ixq_none (j+1) (fun z hz=>h z (by simp [hz]))
theorem ixq_find (q:Nat->Bool):∀ (l:List Nat) (j:Nat),(ixq q l j=-1/\l.find? q=none)\/∃ (k s:Nat),ixq q l j=(j:Int)+(k:Int)/\l[k]? = some s/\l.find? q=some s
 | [],_=>.inl ⟨rfl,rfl⟩
 | y :: r,j=>by
  cases hy:q y with
  | true=>exact .inr ⟨0,y,by simp [ixq,hy],rfl,by simp [hy]⟩
  | false=>
   rcases ixq_find q r (j+1) with ⟨a,b⟩ | ⟨k,s,a,b,c⟩
   ·exact .inl ⟨by simp only [ixq,hy];exact a,by simp [hy,b]⟩
   ·refine .inr ⟨k+1,s,?_,by simpa using b,by simp [hy,c]⟩
    simp only [ixq,hy]
    simp only [Bool.false_eq_true,if_false]
    omega
theorem always_any (t:Nat) (w:World):Calls Tryz.prog 123 #[.int .i64 t] w fun e w'=>e=.returned (.bool (allB t))/\w'=w:=by
 rw [show allB t=true from rfl]
 go_enter Tryz.func123,Tryz.ntmps123
 go_wp2
 go_ret
 exact ⟨rfl,rfl⟩
def hearsB (frm:Int) (i:Nat):Bool:=frm == -1 || frm == (i:Int)
theorem hears_any (g o:Nat) (frm:Int) (t:Nat) (w:World) (h:w.cell? ⟨g,o+4,none⟩=some (.int .i64 frm)):Calls Tryz.prog 133 #[.pointer (some ⟨g,o,none⟩),.int .i64 t] w fun e w'=>e=.returned (.bool (hearsB frm t))/\w'=w:=by
 unfold hearsB
 cases h1:(frm == -1) with
 | true=>
  have H:=hid h1
  go_enter Tryz.func133,Tryz.ntmps133
  go_wp2
  go_ret
  exact ⟨rfl,rfl⟩
 | false=>
  cases h2:(frm == (t:Int)) with
  | true=>
   go_enter Tryz.func133,Tryz.ntmps133
   go_wp2
   go_ret
   exact ⟨rfl,rfl⟩
  | false=>
   go_enter Tryz.func133,Tryz.ntmps133
   go_wp2
   go_ret
   exact ⟨rfl,rfl⟩
theorem indexAll (v:Value) (l:List Nat) (w:World) (hs:Sl w 3 1 v (l.map lnRow)) (hl:l.length<=1000) :
  Calls Tryz.prog 158 #[v,.func (.func 123) #[] #[]] w fun e w'=>e=.returned (.int .i64 (ixq (allB) l 0))/\w'=w:=by
 obtain ⟨a,c,ev⟩:=hs.slice
 rw [List.length_map] at ev
 subst ev
 obtain ⟨m,hn'⟩:∃ m,l.length=m:=⟨_,rfl⟩
 rw [hn'] at hs hl ⊢
 have HS:=hid hs
 have HN:=hid hn'
 clear hs hn'
 go_enter Tryz.func158,Tryz.ntmps158
 go_wp2
 go_loop [8] (fun i=>∃ k:Nat,k<=m/\i=.int .i64 k/\Hid (∀ (i:Nat) p,i < k->l[i]? = some p->(allB) p=false)) (fun i=>m-(intOf i).toNat)
 case atStart=>exact ⟨0,Nat.zero_le _,rfl,fun i p h=>absurd h (by omega)⟩
 case round=>
  obtain ⟨k,hk,rfl,hno⟩:=hrel
  by_cases hlt:k < m
  ·obtain ⟨p,hp⟩:∃ p,l[k]? = some p:=⟨_,List.getElem?_eq_getElem (by have:=HN.out;omega)⟩
   obtain ⟨g0,ea,hx⟩:=HS.out.is_some (by omega)
   clear hx
   subst ea
   have r1:=HS.out.row (i:=k) (r:=[.int .i64 p]) (by rw [List.getElem?_map,hp];rfl)
   have gg:=r1 0 (.int .i64 p) rfl
   simp only [Nat.add_zero,Nat.mul_one] at gg
   have HP:=hid hp
   clear r1 hp
   have hlt':(k:Int) < (m:Int):=by omega
   cases hq:(allB) p with
   | true=>
    have HQ:=hid hq
    go_wp2_with (go_at_call 123;refine (always_any p _).mono ?_;rintro e w1 ⟨rfl,rfl⟩;rw [HQ.out])
    go_ret
    exact ⟨ret_int (by rw [ixq_at 0 HP.out HQ.out hno.out];omega),rfl⟩
   | false=>
    have HQ:=hid hq
    go_wp2_with (go_at_call 123;refine (always_any p _).mono ?_;rintro e w1 ⟨rfl,rfl⟩;rw [HQ.out])
    refine ⟨⟨k+1,by omega,by go_num,?_⟩,by simp [intOf];omega⟩
    intro i z hi hz
    by_cases e:i < k
    ·exact hno.out i z e hz
    ·have:i=k:=by omega
     subst this
     have:=HP.out
     rw [this] at hz;cases hz
     exact HQ.out
  ·go_wp2
   go_ret
   refine ⟨ret_int (ixq_none 0 (fun z hz=>?_)).symm,rfl⟩
   obtain ⟨i,hi⟩:=List.mem_iff_getElem?.1 hz
   exact hno.out i z (by have:=(List.getElem?_eq_some_iff.1 hi).1;have:=HN.out;omega) hi
theorem indexHears (g o:Nat) (frm:Int) (v:Value) (l:List Nat) (w:World) (hs:Sl w 3 1 v (l.map lnRow)) (hl:l.length<=1000) (hh:w.cell? ⟨g,o+4,none⟩=some (.int .i64 frm)) :
  Calls Tryz.prog 158 #[v,.func (.func 133) #[.pointer (some ⟨g,o,none⟩)] #[]] w fun e w'=>e=.returned (.int .i64 (ixq (hearsB frm) l 0))/\w'=w:=by
 obtain ⟨a,c,ev⟩:=hs.slice
 rw [List.length_map] at ev
 subst ev
 obtain ⟨m,hn'⟩:∃ m,l.length=m:=⟨_,rfl⟩
 rw [hn'] at hs hl ⊢
 have HS:=hid hs
 have HN:=hid hn'
 clear hs hn'
 go_enter Tryz.func158,Tryz.ntmps158
 go_wp2
 go_loop [8] (fun i=>∃ k:Nat,k<=m/\i=.int .i64 k/\Hid (∀ (i:Nat) p,i < k->l[i]? = some p->(hearsB frm) p=false)) (fun i=>m-(intOf i).toNat)
 case atStart=>exact ⟨0,Nat.zero_le _,rfl,fun i p h=>absurd h (by omega)⟩
 case round=>
  obtain ⟨k,hk,rfl,hno⟩:=hrel
  by_cases hlt:k < m
  ·obtain ⟨p,hp⟩:∃ p,l[k]? = some p:=⟨_,List.getElem?_eq_getElem (by have:=HN.out;omega)⟩
   obtain ⟨g0,ea,hx⟩:=HS.out.is_some (by omega)
   clear hx
   subst ea
   have r1:=HS.out.row (i:=k) (r:=[.int .i64 p]) (by rw [List.getElem?_map,hp];rfl)
   have gg:=r1 0 (.int .i64 p) rfl
   simp only [Nat.add_zero,Nat.mul_one] at gg
   have HP:=hid hp
   clear r1 hp
   have hlt':(k:Int) < (m:Int):=by omega
   cases hq:(hearsB frm) p with
   | true=>
    have HQ:=hid hq
    go_wp2_with (go_at_call 133;refine (hears_any g o frm p _ hh).mono ?_;rintro e w1 ⟨rfl,rfl⟩;rw [HQ.out])
    go_ret
    exact ⟨ret_int (by rw [ixq_at 0 HP.out HQ.out hno.out];omega),rfl⟩
   | false=>
    have HQ:=hid hq
    go_wp2_with (go_at_call 133;refine (hears_any g o frm p _ hh).mono ?_;rintro e w1 ⟨rfl,rfl⟩;rw [HQ.out])
    refine ⟨⟨k+1,by omega,by go_num,?_⟩,by simp [intOf];omega⟩
    intro i z hi hz
    by_cases e:i < k
    ·exact hno.out i z e hz
    ·have:i=k:=by omega
     subst this
     have:=HP.out
     rw [this] at hz;cases hz
     exact HQ.out
  ·go_wp2
   go_ret
   refine ⟨ret_int (ixq_none 0 (fun z hz=>?_)).symm,rfl⟩
   obtain ⟨i,hi⟩:=List.mem_iff_getElem?.1 hz
   exact hno.out i z (by have:=(List.getElem?_eq_some_iff.1 hi).1;have:=HN.out;omega) hi
theorem firstAll (x off:Nat) (v:Value) (l:List Nat) (w:World) (hc:w.cell? ⟨x,off,none⟩=some v) (hs:Sl w 3 1 v (l.map lnRow)) (hl:l.length<=1000) :
  Calls Tryz.prog 122 #[.pointer (some ⟨x,off,none⟩),.func (.func 123) #[] #[]] w fun e w'=>e=.returned (.tuple #[.int .i64 (((l.find? (allB)).getD 0:Nat):Int),.bool (l.find? (allB)).isSome])/\w'=w:=by
 have HI:=hid (indexAll v l w hs hl)
 obtain ⟨a,c,ev⟩:=hs.slice
 rw [List.length_map] at ev
 subst ev
 have HS:=hid hs
 clear hs
 rcases ixq_find (allB) l 0 with ⟨er,hn⟩ | ⟨i,s,er,hi,hn⟩
 ·rw [er] at HI
  have HR:=hid hn
  clear hn er
  go_enter Tryz.func122,Tryz.ntmps122
  go_wp2_with (go_at_call 158;refine HI.out.mono ?_;rintro e w1 ⟨rfl,rfl⟩)
  go_ret2
  rw [HR.out]
  exact ⟨rfl,rfl⟩
 ·rw [er] at HI
  have hil:=(List.getElem?_eq_some_iff.1 hi).1
  obtain ⟨g0,ea,hx⟩:=HS.out.is_some (by omega)
  clear hx
  subst ea
  have r1:=HS.out.row (i:=i) (r:=[.int .i64 s]) (by rw [List.getElem?_map,hi];rfl)
  have gg:=r1 0 (.int .i64 s) rfl
  simp only [Nat.add_zero,Nat.mul_one] at gg
  have HR:=hid hn
  clear r1 hi hn er
  have hge:(0:Int)<=(i:Int):=by omega
  have hil':(i:Int) < (l.length:Int):=by omega
  rw [show ((0:Nat):Int)+(i:Int)=(i:Int) by omega] at HI
  generalize hm:l.length=m at *
  have HM:=hid hm
  clear hm
  go_enter Tryz.func122,Tryz.ntmps122
  go_wp2_with (go_at_call 158;refine HI.out.mono ?_;rintro e w1 ⟨rfl,rfl⟩)
  go_ret2
  rw [HR.out]
  exact ⟨rfl,rfl⟩
theorem firstHears (g o:Nat) (frm:Int) (x off:Nat) (v:Value) (l:List Nat) (w:World) (hc:w.cell? ⟨x,off,none⟩=some v) (hs:Sl w 3 1 v (l.map lnRow)) (hl:l.length<=1000) (hh:w.cell? ⟨g,o+4,none⟩=some (.int .i64 frm)) :
  Calls Tryz.prog 122 #[.pointer (some ⟨x,off,none⟩),.func (.func 133) #[.pointer (some ⟨g,o,none⟩)] #[]] w fun e w'=>e=.returned (.tuple #[.int .i64 (((l.find? (hearsB frm)).getD 0:Nat):Int),.bool (l.find? (hearsB frm)).isSome])/\w'=w:=by
 have HI:=hid (indexHears g o frm v l w hs hl hh)
 obtain ⟨a,c,ev⟩:=hs.slice
 rw [List.length_map] at ev
 subst ev
 have HS:=hid hs
 clear hs
 rcases ixq_find (hearsB frm) l 0 with ⟨er,hn⟩ | ⟨i,s,er,hi,hn⟩
 ·rw [er] at HI
  have HR:=hid hn
  clear hn er
  go_enter Tryz.func122,Tryz.ntmps122
  go_wp2_with (go_at_call 158;refine HI.out.mono ?_;rintro e w1 ⟨rfl,rfl⟩)
  go_ret2
  rw [HR.out]
  exact ⟨rfl,rfl⟩
 ·rw [er] at HI
  have hil:=(List.getElem?_eq_some_iff.1 hi).1
  obtain ⟨g0,ea,hx⟩:=HS.out.is_some (by omega)
  clear hx
  subst ea
  have r1:=HS.out.row (i:=i) (r:=[.int .i64 s]) (by rw [List.getElem?_map,hi];rfl)
  have gg:=r1 0 (.int .i64 s) rfl
  simp only [Nat.add_zero,Nat.mul_one] at gg
  have HR:=hid hn
  clear r1 hi hn er
  have hge:(0:Int)<=(i:Int):=by omega
  have hil':(i:Int) < (l.length:Int):=by omega
  rw [show ((0:Nat):Int)+(i:Int)=(i:Int) by omega] at HI
  generalize hm:l.length=m at *
  have HM:=hid hm
  clear hm
  go_enter Tryz.func122,Tryz.ntmps122
  go_wp2_with (go_at_call 158;refine HI.out.mono ?_;rintro e w1 ⟨rfl,rfl⟩)
  go_ret2
  rw [HR.out]
  exact ⟨rfl,rfl⟩
theorem first_any (x off:Nat) (v:Value) (l:List Nat) (w:World) (hc:w.cell? ⟨x,off,none⟩=some v) (hs:Sl w 3 1 v (l.map lnRow)) (hl:l.length<=1000) :
  Calls Tryz.prog 78 #[.pointer (some ⟨x,off,none⟩)] w fun e w'=>e=.returned (.tuple #[.int .i64 ((l.headD 0:Nat):Int),.bool (!l.isEmpty)])/\w'=w:=by
 have HI:=hid (firstAll x off v l w hc hs hl)
 clear hs hc
 go_enter Tryz.func78,Tryz.ntmps78
 go_wp2_with (go_at_call 122;refine HI.out.mono ?_;rintro e w1 ⟨rfl,rfl⟩)
 go_ret2
 refine ⟨?_,rfl⟩
 cases l <;> rfl
open Go.RowKit
section
variable {P:Program}
theorem wpList_copy_eq (w:World){ops:Array Oper}{rest:List Oper}{o:Oper}{a:Act}{Q:Exit->Act->World->Prop}(hgd:o.guard=none) (d s:Operand) (t t':TypeId)
  (ho:o.op=.call { callee:=.builtin .copy,args:=#[d,s],argTypes:=#[t,t'] }) (v u:Value) (hd:a.eval d=v) (hs:a.eval s=u){v':Value}{w':World}
  (hr:(Builtin.copy_ #[t,t'] o.type #[v,u]).run P w=.ok v' w') (h:wpList P ops Q rest (a.put o.dst v') w'):wpList P ops Q (o :: rest) a w:=by
 refine wpList_plain hgd fun _ hK=>?_
 unfold Oper.wp execOp
 simp only [ho,resolve,invoke,builtin,Sem.run_bind,Sem.run_pure,Result.andThen_ok,List.map_toArray,List.map_cons,List.map_nil,hd,hs,hr]
 exact hK _ _ h
theorem step_copy_eq {ops:Array Oper}{o:Oper}{a:Act}{w:World}{K:Act->World->Prop}{Q:Exit->Act->World->Prop}{E:Prop}(hg:o.guard=none) (d x:Operand) (dT sT:TypeId)
  (hop:o.op=Op.call { callee:=Callee.builtin Builtin.copy,args:=#[d,x],argTypes:=#[dT,sT] }) (v u:Value) (hd:a.eval d=v) (hx:a.eval x=u){v':Value}{w':World}(hr:(Builtin.copy_ #[dT,sT] o.type #[v,u]).run P w=.ok v' w') (hK:K (a.put o.dst v') w') :
  if Region.wanted o (yielded ops a.tmps)=true then Oper.wp P o a w K Q else E:=by
 have hw:Region.wanted o (yielded ops a.tmps)=true:=by simp [Region.wanted,hg]
 rw [if_pos hw]
 unfold Oper.wp
 simp [execOp,hop,resolve,invoke,builtin,hd,hx,hr,Result.andThen]
 exact hK
end
theorem Tryz.size3:(Tryz.prog.info? 3).map (·.size)=some 1:=by kernel_rfl
theorem Tryz.sizeOf3 (w:World):(Go.sizeOf 3).run Tryz.prog w=.ok 1 w:=by kernel_rfl
theorem overlaps_no (w:World) (vb b o lb cb kB:Nat) (hvb:vb≠b) (hsa:w.shape? vb=some (3,1)) (hsb:w.shape? b=some (3,kB)) (hkB:kB≠0) (hfa:w.frozen? ⟨vb,0,none⟩=false) (hfe:w.frozen? ⟨vb,1,none⟩=false) :
  (callFunc 174 #[.slice (some ⟨vb,0,none⟩) 1 1,.slice (some ⟨b,o,none⟩) lb cb]).run Tryz.prog w=.ok (.value (.bool false)) w:=by
 rw [run_callFunc_extern Tryz.func174 (by kernel_rfl) (by kernel_rfl) (by kernel_rfl) (e:=Extern.SlicesOverlaps.overlaps #[24,24] #[4]) (by kernel_rfl),
  Lib.run_overlaps_apart w 24 4 3 Tryz.underlying24 1 Tryz.sizeOf3 ⟨vb,0,none⟩ ⟨b,o,none⟩ 1 1 lb cb hvb 3 3 1 kB hsa hsb hkB hfa hfe]
 rfl
theorem isSome_set (b:Nat) (vs:List Value) (o:Nat) (w:World) (h:∀ j,j < vs.length->(w.cell? ⟨b,o+j,none⟩).isSome=true) (k:Nat) (hk:(w.cell? ⟨b,k,none⟩).isSome=true):((w.setCells b o vs).cell? ⟨b,k,none⟩).isSome=true:=by
 by_cases hin:o<=k/\k < o+vs.length
 ·have:=World.cell?_setCells_in b vs o w h (k-o) (by omega)
  rw [show o+(k-o)=k by omega] at this
  rw [this];rfl
 ·rw [World.cell?_setCells_out b vs o w ⟨b,k,none⟩ (fun _ _=>by show k < o\/o+vs.length<=k;omega)]
  exact hk
theorem insert_shift (b n c vb x:Nat) (cs:List Value) (w:World) (hn:0 < n) (hroom:n+1<=c) (hc63:c<=9223372036854775807) (hvb:vb≠b) (hcl:cs.length=n)
  (hcs:∀ j v,cs[j]? = some v->w.cell? ⟨b,j,none⟩=some v) (hsp:∀ j,j < n+1->(w.cell? ⟨b,j,none⟩).isSome=true) (hfz:∀ j,j < n+1->w.frozen? ⟨b,j,none⟩=false)
  (hvs:w.cell? ⟨vb,0,none⟩=some (.int .i64 x)) (h1c:∀ v∈cs,v.oneCell'=true) (hsa:w.shape? vb=some (3,1)) (hsb:w.shape? b=some (3,c)) (hfa:w.frozen? ⟨vb,0,none⟩=false) (hfe:w.frozen? ⟨vb,1,none⟩=false) :
  Calls Tryz.prog 172 #[.slice (some ⟨b,0,none⟩) n c,.int .i64 0,.slice (some ⟨vb,0,none⟩) 1 1] w fun e w'=>e=.returned (.slice (some ⟨b,0,none⟩) (n+1) c)/\w'=(w.drew.setCells b 1 cs).setCells b 0 [.int .i64 x]:=by
 have hov:=fun lb cb=>overlaps_no w vb b 1 lb cb c hvb hsa hsb (by omega) hfa hfe
 have hcp1:∀ ty dc sc,(Builtin.copy_ #[24,24] ty #[.slice (some ⟨b,1,none⟩) n dc,.slice (some ⟨b,0,none⟩) (n+1) sc]).run Tryz.prog w.drew=.ok (goInt cs.length) (w.drew.setCells b 1 cs):=fun ty dc sc=>
  run_copy_cells w.drew _ _ ty 3 b 1 n dc ⟨b,0,none⟩ (n+1) sc cs Tryz.underlying24 Tryz.size3 (by rw [hcl];simp only [Nat.min_def];split <;> omega)
   (fun j v hj=>by rw [Addr.add_lit,Nat.zero_add];exact hcs j v hj)
   (fun j hj=>by rw [hcl] at hj;exact hsp _ (by omega)) (fun j hj=>by rw [hcl] at hj;exact hfz _ (by omega)) h1c
 obtain ⟨W1,hW1⟩:∃ W1,W1=w.drew.setCells b 1 cs:=⟨_,rfl⟩
 have hsp1:∀ k,k < n+1->(W1.cell? ⟨b,k,none⟩).isSome=true:=fun k hk=>by
  rw [hW1]
  exact isSome_set b _ _ _ (fun j hj=>by rw [hcl] at hj;exact hsp _ (by omega)) _ (hsp k hk)
 have hcp2:∀ (W:World),(∀ x,W.cell? x=W1.cell? x)->(∀ x,W.frozen? x=W1.frozen? x)->∀ ty dc,(Builtin.copy_ #[24,24] ty #[.slice (some ⟨b,0,none⟩) (n+1) dc,.slice (some ⟨vb,0,none⟩) 1 1]).run Tryz.prog W=.ok (goInt [Value.int .i64 x].length) (W.setCells b 0 [.int .i64 x]):=fun W hWc hWf ty dc=>
  run_copy_cells W _ _ ty 3 b 0 (n+1) dc ⟨vb,0,none⟩ 1 1 [.int .i64 x] Tryz.underlying24 Tryz.size3 (by simp only [Nat.min_def,List.length_singleton];split <;> omega)
   (fun j v hj=>by
    rw [Addr.add_lit,hWc,hW1,World.cell?_setCells_out b _ _ _ _ (fun h _=>absurd h hvb)]
    cases j with
    | zero=>simp at hj;rw [<- hj];exact hvs
    | succ j=>simp at hj)
   (fun j hj=>by rw [hWc,Nat.zero_add];exact hsp1 _ (by simp at hj;omega)) (fun j hj=>by rw [hWf,hW1,World.frozen?_setCells,Nat.zero_add];exact hfz _ (by simp at hj;omega)) (fun v hv=>by simp at hv;rw [hv];rfl)
 rw [<- hW1] at hcp1
 have q1:((0:Int) == (n:Int))=false:=by simp;omega
 have q2:¬ ((c:Int) < (n:Int)+1):=by omega
 have q3:¬ c=1:=by omega
 have q4:¬ c=0:=by omega
 have q5:1<=n+1:=by omega
 have q6:n+1-1=n:=by omega
 have q7:(1:Int)<=(n:Int)+1:=by omega
 have q8:((n:Int)+1).toNat=n+1:=by omega
 have q9:(n:Int)+1<=(c:Int):=by omega
 have q10:¬ (0:Int)=(n:Int):=by omega
 have qw:IntKind.i64.wrap 1=1:=by decide
 have q11:(0:Int)<=(n:Int)+1:=by omega
 go_enter Tryz.func172,Tryz.ntmps172
 go_wp2_with (simp only [hov])
 go_region_law (refine step_copy_eq rfl _ _ 24 24 rfl _ _ (by simp [Act.eval,Act.put]) (by simp [Act.eval,Act.put]) (hcp1 _ _ _) ?_)
 go_wp2_with (at_builtin;refine wpList_copy_eq _ rfl _ _ 24 24 rfl _ _ rfl rfl (hcp2 _ (fun _=>rfl) (fun _=>rfl) _ _) ?_)
 go_ret
 first | exact ⟨rfl,rfl⟩ | exact ⟨rfl,by rw [hW1]⟩
theorem insert_zero (a:Option Addr) (c vb x:Nat) (w:World) (hs:Sl w 3 1 (.slice a 0 c) []) (hvs:w.cell? ⟨vb,0,none⟩=some (.int .i64 x)) :
  Calls Tryz.prog 172 #[.slice a 0 c,.int .i64 0,.slice (some ⟨vb,0,none⟩) 1 1] w fun e w'=>∃ a' c',e=.returned (.slice a' 1 c')/\Grew 3 1 (.slice a 0 c) w (.slice a' 1 c') [[.int .i64 x]] w':=by
 obtain ⟨i0,hi0,hz0,hz1,hz2⟩:=info_parts Tryz.infoN3
 have HS:=hid hs
 have hnews:∀ (j:Nat) u,([[Value.int .i64 x]]:List (List Value)).flatten[j]? = some u->w.cell? ((⟨vb,0,none⟩:Addr).add j)=some u:=by
  intro j u h
  cases j with
  | zero=>simp at h;subst h;exact hvs
  | succ j=>simp at h
 clear hs
 go_enter Tryz.func172,Tryz.ntmps172
 go_wp2_with (at_builtin;go_must (refine wpList_append_sl _ rfl _ _ 24 rfl 3 i0 _ 1 8 Tryz.underlying24 hi0 hz0 hz1 hz2 rfl (by decide) (.slice a 0 c) [] rfl HS.out ⟨vb,0,none⟩ 1 1 [[.int .i64 x]] rfl rfl (by decide) (by simp) hnews (fun u hu=>by simp at hu;subst hu;rfl) (by simp [maxLen]) (by simp) ?_);intro a4 c4 w4 G4;replace G4:=hid G4)
 go_ret
 exact ⟨a4,c4,rfl,G4.out⟩
theorem insert_grow (b n vb x:Nat) (cs:List Value) (w:World) (hn:0 < n) (hn9:n<=1000) (hcl:cs.length=n)
  (hcs:∀ j v,cs[j]? = some v->w.cell? ⟨b,j,none⟩=some v) (hvs:w.cell? ⟨vb,0,none⟩=some (.int .i64 x)) (h1c:∀ v∈cs,v.oneCell'=true) :
  Calls Tryz.prog 172 #[.slice (some ⟨b,0,none⟩) n n,.int .i64 0,.slice (some ⟨vb,0,none⟩) 1 1] w fun e w'=>∃ (G:Nat) (ROW:Array Value),n+1<=G/\G<=maxLen/\ROW.size=G/\e=.returned (.slice (some ⟨w.heap.size,0,none⟩) (n+1) G)/\w'=(((w.alloc (.cells ROW 3)).drew.setCells w.heap.size 0 [.int .i64 x]).drew).setCells w.heap.size 1 cs:=by
 obtain ⟨i0,hi0,hz0,hzs,hzb⟩:=info_parts Tryz.infoN3
 have hbw:b < w.heap.size:=block_lt_of_cell (hcs 0 _ (List.getElem?_eq_getElem (by omega)))
 have hvw:vb < w.heap.size:=block_lt_of_cell hvs
 have hold:(Builtin.firstCells i0.size 0 (.slice (some ⟨b,0,none⟩) 0 n)).run Tryz.prog w.drew=.ok ([]:List Value).toArray w.drew:=by
  rw [hzs]
  exact run_firstCells_some w.drew 1 0 ⟨b,0,none⟩ 0 n [] (by simp) (fun j v hj=>by simp at hj)
 obtain ⟨G,hG⟩:∃ G,G=grownCap w (n+1) n 3:=⟨_,rfl⟩
 have hGn:n+1<=G:=by rw [hG];exact grownCap_ge w _ _ _
 have hG63:G<=maxLen:=by rw [hG];exact grownCap_le_maxLen w (n+1) n 3 (by unfold maxLen;omega)
 have hrz:∀ ty,(Builtin.append_ #[24,3] ty #[.slice (some ⟨b,0,none⟩) 0 n,.int .i64 ((n:Int)+1)]).run Tryz.prog w =
   .ok (.slice (some ⟨w.heap.size,0,none⟩) (n+1) G) (w.drew.alloc (.cells (([]:List Value).toArray ++ Builtin.zeroCells (Value.int .i64 0).cells (n+1) ++ Builtin.zeroCells (Value.int .i64 0).cells (G-(n+1))) 3)):=fun ty=>by
  have h:=Lib.run_append_grow_zeros w 24 3 ty 3 i0 _ .i64 .i64 Tryz.underlying24 Tryz.underlying3 hi0 hz0 (some ⟨b,0,none⟩) 0 n [] hold (n+1) (by omega) (by omega) (by omega) (by omega) (by rw [hzb];omega) (by rw [hzb,Nat.zero_add];exact growslice_fits (by omega) (by omega))
  rw [Nat.zero_add,<- hG] at h
  rw [show (n:Int)+1=((n+1:Nat):Int) by omega]
  exact h
 obtain ⟨ROW,hROW⟩:∃ ROW:Array Value,ROW=([]:List Value).toArray ++ Builtin.zeroCells (Value.int .i64 0).cells (n+1) ++ Builtin.zeroCells (Value.int .i64 0).cells (G-(n+1)):=⟨_,rfl⟩
 rw [<- hROW] at hrz
 have hRl:ROW.size=G:=by
  rw [hROW]
  simp [Builtin.zeroCells,Value.cells]
  omega
 obtain ⟨W1,hW1⟩:∃ W1,W1=w.drew.alloc (.cells ROW 3):=⟨_,rfl⟩
 rw [<- hW1] at hrz
 have hN:∀ j,j < n+1->(W1.cell? ⟨w.heap.size,j,none⟩).isSome=true:=fun j hj=>by
  rw [hW1,World.cell?_alloc_at (w:=w.drew) ROW _ w.heap.size j rfl,Array.getElem?_eq_getElem (by omega)];rfl
 have hNf:∀ j,W1.frozen? ⟨w.heap.size,j,none⟩=false:=fun j=>by rw [hW1];exact World.frozen?_alloc_at (w:=w.drew) ROW _ w.heap.size j rfl
 have hOb:∀ j v,w.cell? ⟨b,j,none⟩=some v->W1.cell? ⟨b,j,none⟩=some v:=fun j v h=>by rw [hW1,World.cell?_alloc_past (w:=w.drew) _ b j hbw];exact h
 have hOv:∀ j v,w.cell? ⟨vb,j,none⟩=some v->W1.cell? ⟨vb,j,none⟩=some v:=fun j v h=>by rw [hW1,World.cell?_alloc_past (w:=w.drew) _ vb j hvw];exact h
 have hcpA:∀ (W:World),(∀ x,W.cell? x=W1.cell? x)->(∀ x,W.frozen? x=W1.frozen? x)->∀ ty dc,(Builtin.copy_ #[24,24] ty #[.slice (some ⟨w.heap.size,0,none⟩) (n+1) dc,.slice (some ⟨vb,0,none⟩) 1 1]).run Tryz.prog W=.ok (goInt [Value.int .i64 x].length) (W.setCells w.heap.size 0 [.int .i64 x]):=fun W hWc hWf ty dc=>
  run_copy_cells W _ _ ty 3 w.heap.size 0 (n+1) dc ⟨vb,0,none⟩ 1 1 [.int .i64 x] Tryz.underlying24 Tryz.size3 (by simp only [Nat.min_def,List.length_singleton];split <;> omega)
   (fun j v hj=>by
    rw [Addr.add_lit,hWc]
    cases j with
    | zero=>simp at hj;rw [<- hj];exact hOv _ _ hvs
    | succ j=>simp at hj)
   (fun j hj=>by rw [hWc,Nat.zero_add];exact hN _ (by simp at hj;omega)) (fun j hj=>by rw [hWf];exact hNf _) (fun v hv=>by simp at hv;rw [hv];rfl)
 have hbN:b≠w.heap.size:=by omega
 have hcpB:∀ (W:World),(∀ y,W.cell? y=(W1.setCells w.heap.size 0 [.int .i64 x]).cell? y)->(∀ y,W.frozen? y=(W1.setCells w.heap.size 0 [.int .i64 x]).frozen? y)->∀ ty dc sc,(Builtin.copy_ #[24,24] ty #[.slice (some ⟨w.heap.size,1,none⟩) n dc,.slice (some ⟨b,0,none⟩) n sc]).run Tryz.prog W=.ok (goInt cs.length) (W.setCells w.heap.size 1 cs):=fun W hWc hWf ty dc sc=>
  run_copy_cells W _ _ ty 3 w.heap.size 1 n dc ⟨b,0,none⟩ n sc cs Tryz.underlying24 Tryz.size3 (by rw [hcl];simp only [Nat.min_def];split <;> omega)
   (fun j v hj=>by
    rw [Addr.add_lit,hWc,World.cell?_setCells_out _ _ _ _ _ (fun h _=>absurd h hbN),Nat.zero_add]
    exact hOb _ v (hcs j v hj))
   (fun j hj=>by rw [hcl] at hj;rw [hWc];exact isSome_set _ _ _ _ (fun t ht=>by simp at ht;exact hN _ (by omega)) _ (hN _ (by omega)))
   (fun j hj=>by rw [hWf,World.frozen?_setCells];exact hNf _) h1c
 have HF:=hid (And.intro hGn (And.intro hG63 hRl))
 have q1:((0:Int) == (n:Int))=false:=by simp;omega
 have q2:(n:Int) < (n:Int)+1:=by omega
 have q3:¬ G=1:=by omega
 have q4:¬ G=0:=by omega
 have q4':¬ n=0:=by omega
 have q5:1<=n+1:=by omega
 have q6:n+1-1=n:=by omega
 have q7:(1:Int)<=(n:Int)+1:=by omega
 have q8:((n:Int)+1).toNat=n+1:=by omega
 have q10:¬ (0:Int)=(n:Int):=by omega
 have qw:IntKind.i64.wrap 1=1:=by decide
 have q11:(0:Int)<=(n:Int)+1:=by omega
 subst hW1
 have hE1:∀ x,((w.alloc (.cells ROW 3)).drew).cell? x=(w.drew.alloc (.cells ROW 3)).cell? x:=fun x=>rfl
 have hE2:∀ x,((w.alloc (.cells ROW 3)).drew).frozen? x=(w.drew.alloc (.cells ROW 3)).frozen? x:=fun x=>rfl
 have hF1:∀ y,(((w.alloc (.cells ROW 3)).drew.setCells w.heap.size 0 [.int .i64 x]).drew).cell? y=((w.drew.alloc (.cells ROW 3)).setCells w.heap.size 0 [.int .i64 x]).cell? y:=fun y=>rfl
 have hF2:∀ y,(((w.alloc (.cells ROW 3)).drew.setCells w.heap.size 0 [.int .i64 x]).drew).frozen? y=((w.drew.alloc (.cells ROW 3)).setCells w.heap.size 0 [.int .i64 x]).frozen? y:=fun y=>rfl
 clear hROW hRl hG hGn hG63 hold
 go_enter Tryz.func172,Tryz.ntmps172
 go_wp2_with (first
  | (at_builtin;refine Lib.wpList_append_run _ rfl _ _ _ _ rfl _ _ rfl rfl _ _ (hrz _) ?_)
  | (at_builtin;refine wpList_copy_eq _ rfl _ _ 24 24 rfl _ _ rfl rfl (hcpA _ hE1 hE2 _ _) ?_))
 go_region_law (refine step_copy_eq rfl _ _ 24 24 rfl (.slice (some ⟨w.heap.size,1,none⟩) n (G-1)) (.slice (some ⟨b,0,none⟩) n n) (by simp [Act.eval,Act.put]) (by simp [Act.eval,Act.put]) (hcpB _ hF1 hF2 3 (G-1) n) ?_)
 go_wp2
 go_ret
 exact ⟨G,ROW,HF.out.1,HF.out.2.1,HF.out.2.2,rfl,rfl⟩
theorem setAt_shift {ys cs:List Value}{x:Value}(h:ys.length=cs.length+1):setAt (setAt ys 1 cs) 0 [x]=x :: cs:=by
 have h1:(setAt ys 1 cs).length=cs.length+1:=by rw [length_setAt];exact h
 rw [setAt_eq [x] _ 0 (by simp;omega),setAt_eq cs ys 1 (by omega),List.drop_eq_nil_of_le (show ys.length<=1+cs.length by omega)]
 cases ys with
 | nil=>simp at h
 | cons y r=>simp
theorem setAt_grow {ys cs:List Value}{x:Value}(h:ys.length=cs.length+1):setAt (setAt ys 0 [x]) 1 cs=x :: cs:=by
 have h1:(setAt ys 0 [x]).length=cs.length+1:=by rw [length_setAt];exact h
 rw [setAt_eq cs _ 1 (by omega),setAt_eq [x] ys 0 (by simp;omega)]
 cases ys with
 | nil=>simp at h
 | cons y r=>
  simp at h
  simp
  omega
theorem ln_flat (l:List Nat):(l.map lnRow).flatten=l.map (fun (t:Nat)=>Value.int .i64 t):=by
 induction l with
 | nil=>rfl
 | cons y r ih=>simp [ih,lnRow]
theorem sl_lines {w:World}{v:Value}{l:List Nat}(h:w.ownsRow 0 3 1 v l.length (l.map (fun (t:Nat)=>Value.int .i64 t))):Sl w 3 1 v (l.map lnRow):=by
 refine ⟨by rw [ln_flat,List.length_map];exact h,?_⟩
 intro r hr
 obtain ⟨t,_,rfl⟩:=List.mem_map.1 hr
 rfl
theorem insert_any (v:Value) (l:List Nat) (vb x:Nat) (w:World) (hs:Sl w 3 1 v (l.map lnRow)) (hl:l.length<=1000) (hb:w.heap[vb]? = some (.cells #[.int .i64 x] 3 (0,0))) (hne:v.ownBlock≠some vb) :
  Calls Tryz.prog 172 #[v,.int .i64 0,.slice (some ⟨vb,0,none⟩) 1 1] w fun e w'=>∃ a' c',e=.returned (.slice a' (l.length+1) c')/\Sl w' 3 1 (.slice a' (l.length+1) c') ((x :: l).map lnRow)/\Fr (fun k=>v.ownBlock=some k) w w'/\∀ k,Value.ownBlock (.slice a' (l.length+1) c')=some k->w.heap.size<=k\/v.ownBlock=some k:=by
 have hvs:w.cell? ⟨vb,0,none⟩=some (.int .i64 x):=(cell_of_row w vb 0 _ _ _ hb).trans rfl
 have hl0:=hs.own
 rw [ln_flat,List.length_map] at hl0
 have hone:∀ v∈l.map (fun (t:Nat)=>Value.int .i64 t),v.oneCell'=true:=fun u hu=>by obtain ⟨t,_,rfl⟩:=List.mem_map.1 hu;rfl
 by_cases h0:l=[]
 ·subst h0
  obtain ⟨a,c,rfl⟩:=hs.slice
  refine (insert_zero a c vb x w hs hvs).mono ?_
  rintro e w' ⟨a',c',rfl,G⟩
  exact ⟨a',c',rfl,G.sl,Fr.grown G.by_,G.at_⟩
 ·have hn:0 < l.length:=List.length_pos_iff.2 h0
  rcases hl0.2 with ⟨_,h2⟩ | ⟨g,cap,cur,rfl,_,hg,h3,h4,h5,h6⟩
  ·omega
  ·rw [Nat.mul_one] at h5 h6
   have hcell:∀ (j:Nat) u,cur.toList[j]? = some u->w.cell? ⟨g,j,none⟩=some u:=fun j u hu=>by rw [cell_of_row w g j _ _ _ hg];simpa using hu
   have hcs:∀ j u,(l.map (fun (t:Nat)=>Value.int .i64 t))[j]? = some u->w.cell? ⟨g,j,none⟩=some u:=by
    intro j u hu
    have hj:=(List.getElem?_eq_some_iff.1 hu).1
    rw [List.length_map] at hj
    rw [<- h6,List.getElem?_take_of_lt hj] at hu
    exact hcell j u hu
   by_cases hroom:l.length+1<=cap
   ·have hm63:cap<=9223372036854775807:=by unfold maxLen at h4;omega
    refine (insert_shift g l.length cap vb x (l.map (fun (t:Nat)=>Value.int .i64 t)) w hn hroom hm63 (fun e=>hne (by rw [e];rfl)) (by simp) hcs (fun j hj=>?_) (fun j _=>frozen_of_row w g j _ _ hg) hvs hone (by simp [World.shape?,hb]) (by simp [World.shape?,hg,h5]) (frozen_of_row w vb 0 _ _ hb) (frozen_of_row w vb 1 _ _ hb)).mono ?_
    ·rw [cell_of_row w g j _ _ _ hg,Array.getElem?_eq_getElem (by omega)];rfl
    ·rintro e w' ⟨rfl,rfl⟩
     have hlen:(cur.toList.take (l.length+1)).length=(l.map (fun (t:Nat)=>Value.int .i64 t)).length+1:=by simp;omega
     have o1:w.drew.ownsRow 0 3 1 (.slice (some ⟨g,0,none⟩) (l.length+1) cap) (l.length+1) (cur.toList.take (l.length+1)):=⟨by rw [hlen];simp,.inr ⟨g,cap,cur,rfl,Nat.zero_le _,hg,hroom,h4,by rw [Nat.mul_one];exact h5,by rw [Nat.mul_one]⟩⟩
     have o2:=setCells_owns (l.map (fun (t:Nat)=>Value.int .i64 t)) 1 _ _ o1
     have o3:=setCells_owns [.int .i64 x] 0 _ _ o2.1
     rw [setAt_shift hlen] at o3
     refine ⟨some ⟨g,0,none⟩,cap,rfl,sl_lines (l:=x :: l) o3.1,?_,fun k hk=>.inr hk⟩
     exact ((Fr.refl _ w).drew.trans (Fr.grown o2.2)).trans (Fr.grown o3.2)
   ·have hcap:cap=l.length:=by omega
    subst hcap
    refine (insert_grow g l.length vb x (l.map (fun (t:Nat)=>Value.int .i64 t)) w hn hl (by simp) hcs hvs hone).mono ?_
    rintro e w' ⟨G,ROW,hG,hG9,hR,rfl,rfl⟩
    have hlen:(ROW.toList.take (l.length+1)).length=(l.map (fun (t:Nat)=>Value.int .i64 t)).length+1:=by simp;omega
    have o1:(w.alloc (.cells ROW 3)).drew.ownsRow 0 3 1 (.slice (some ⟨w.heap.size,0,none⟩) (l.length+1) G) (l.length+1) (ROW.toList.take (l.length+1)):=⟨by rw [hlen];simp,.inr ⟨w.heap.size,G,ROW,rfl,Nat.zero_le _,heap_alloc_new w _,hG,hG9,by rw [Nat.mul_one];exact hR,by rw [Nat.mul_one]⟩⟩
    have o2:=setCells_owns [.int .i64 x] 0 _ _ o1
    have o3:=setCells_owns (l.map (fun (t:Nat)=>Value.int .i64 t)) 1 _ _ (owns_drew o2.1)
    rw [setAt_grow hlen] at o3
    refine ⟨some ⟨w.heap.size,0,none⟩,G,rfl,sl_lines (l:=x :: l) o3.1,?_,fun k hk=>.inl (by simp [Value.ownBlock] at hk;omega)⟩
    have F1:Fr (fun k=>some w.heap.size=some k) w ((((w.alloc (.cells ROW 3)).drew.setCells w.heap.size 0 [.int .i64 x]).drew).setCells w.heap.size 1 (l.map (fun (t:Nat)=>Value.int .i64 t))):=(((((Fr.refl _ w).alloc _).drew).trans (Fr.grown o2.2)).drew).trans (Fr.grown o3.2)
    exact F1.mono (fun k hk e=>by simp at e;omega)
theorem comeFirst_any (x off:Nat) (v:Value) (l:List Nat) (t:Nat) (cs:Array Value) (ty:TypeId) (w:World) (hb:w.heap[x]? = some (.cells cs ty (0,0))) (hv:cs[off]? = some v) (hs:Sl w 3 1 v (l.map lnRow)) (hl:l.length<=1000) (hn:l.Nodup) (hne:v.ownBlock≠some x) :
  Calls Tryz.prog 166 #[.pointer (some ⟨x,off,none⟩),.int .i64 t] w fun e w'=>e=.returned (.tuple #[])/\∃ v',w'.heap[x]? = some (.cells (cs.setIfInBounds off v') ty (0,0))/\Sl w' 3 1 v' ((t :: l.erase t).map lnRow)/\Fr (fun k=>k=x\/v.ownBlock=some k) w w'/\∀ k,v'.ownBlock=some k->w.heap.size<=k\/v.ownBlock=some k:=by
 have hbl:=(Array.getElem?_eq_some_iff.1 hb).1
 have hlo:off < cs.size:=(Array.getElem?_eq_some_iff.1 hv).1
 have HA:=hid (And.intro hs (And.intro hb (And.intro hn (And.intro hl (And.intro hne hv)))))
 clear hs hb hn hl hne hv
 go_enter Tryz.func166,Tryz.ntmps166
 go_wp2_with fail
 go_at_call 124
 refine (leave_any x off v l t cs ty _ HA.out.2.1 HA.out.2.2.2.2.2 HA.out.1 HA.out.2.2.2.1 HA.out.2.2.1 HA.out.2.2.2.2.1).mono ?_
 rintro e w1 ⟨rfl,v1,H1⟩
 have hsl:=H1.2.1.slice
 rw [List.length_map] at hsl
 obtain ⟨a1,c1,rfl⟩:=hsl
 obtain ⟨m,hm⟩:∃ m,(l.erase t).length=m:=⟨_,rfl⟩
 rw [hm] at H1
 have hml:m<=1000:=by (have:=HA.out.2.2.2.1;have:=List.length_erase_le (a:=t) (l:=l);omega)
 replace H1:=hid (And.intro H1 hm)
 have hc1:w1.cell? ⟨x,off,none⟩=some (.slice a1 m c1):=(cell_of_row w1 x off _ _ _ H1.out.1.1).trans (by simp [hlo])
 have hbl1:=(Array.getElem?_eq_some_iff.1 H1.out.1.1).1
 have n1:Hid (Value.ownBlock (.slice a1 m c1)≠some x):=(by rw [H1.out.1.2.2.2];exact HA.out.2.2.2.2.1)
 have I:=insert_any (.slice a1 m c1) (l.erase t) w1.heap.size t (w1.alloc (.cells #[.int .i64 t] 3)) (H1.out.1.2.1.alloc _) (by rw [hm];omega) (heap_alloc_new w1 _) (fun e=>by have:=H1.out.1.2.1.lt e;omega)
 rw [hm] at I
 have HI:=hid I
 clear hm I
 go_wp2_with (go_at_call 172;refine HI.out.mono ?_;rintro e w4 ⟨a4,c4,rfl,G4⟩;replace G4:=hid G4;have hb4:Hid (w4.heap[x]? = some (.cells (cs.setIfInBounds off (.slice a1 m c1)) ty (0,0))):=(G4.out.2.1.block x (by simp;omega) n1.out).trans (((Fr.refl (fun _=>False) w1).alloc _).block _ hbl1 id |>.trans H1.out.1.1);have hc4:w4.cell? ⟨x,off,none⟩=some (.slice a1 m c1):=(cell_of_row w4 _ off _ _ _ hb4.out).trans (by simp [hlo]);have hf4:w4.frozen? ⟨x,off,none⟩=false:=frozen_of_row _ _ _ _ _ hb4.out)
 go_end0
 generalize hv4:Value.slice a4 (m+1) c4=v4 at G4 ⊢
 have F4:Fr (fun k=>k=x\/v.ownBlock=some k) w1 w4:=(((Fr.refl _ w1).alloc _).trans (G4.out.2.1.mono (fun k hk e=>.inr (by rw [<- H1.out.1.2.2.2];exact e))))
 have F5:Fr (fun k=>k=x) w4 (w4.setCell ⟨x,off,none⟩ v4):=(Fr.refl (fun k=>k=x) w4).setCell (p:=⟨x,off,none⟩) (fun _=>rfl) _
 have hn4:∀ k,v4.ownBlock=some k->w.heap.size<=k\/v.ownBlock=some k:=by
  intro k hk
  rcases G4.out.2.2 k hk with h | h
  ·left
   have:=H1.out.1.2.2.1.size
   simp at h
   omega
  ·right;rw [<- H1.out.1.2.2.2];exact h
 refine ⟨rfl,v4,?_,?_,(H1.out.1.2.2.1.trans F4).trans (F5.mono (fun k _ h=>.inl h)),hn4⟩
 ·have:=heap_setCell_same w4 x off _ ty v4 hb4.out
  rwa [Array.setIfInBounds_setIfInBounds] at this
 ·exact G4.out.1.kept F5 (fun k hk e=>by
   subst e
   rcases hn4 _ hk with h | h
   ·omega
   ·exact HA.out.2.2.2.2.1 h)
end Go.Proofs.YteejjgbeknnmeaaGreatDoor
