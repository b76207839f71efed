import Derived.Test.YteejjgbeknnmeaaGreatDoorJ01
import Derived.Test.YteejjgbeknnmeaaGreatDoorJ02
import Derived.Test.YteejjgbeknnmeaaGreatDoorJ04
import Derived.StillTailTactics
import Derived.Deep.RegionHeld3
import Derived.Deep.DeepCutAuto
set_option maxRecDepth 100000
set_option maxHeartbeats 20000000
namespace Go.Proofs.YteejjgbeknnmeaaGreatDoor
open Go.RowKit
structure PT where
 sp:Int
 row:Int
 left:Int
 st:Int
 code:Int
 who:Int
 ws:List Int
 got:Int
 tgt:Int
 pw:List Int
 item:Int
 rt:Int
 frm:Int
 win:Int
 wait:Int
 time:Int
 wl:List Nat
structure PM where
 threads:List PT
 ln:Nat->List Nat
 sp:Int
 passes:List (Int×Int×Int×Int)
 leaves:List Lf
 fr:Nat->Int
 clock:Int
def PM.upd (M:PM) (i:Nat) (f:PT->PT):PM:={ M with threads:=M.threads.modify i f }
def PM.setLn (M:PM) (r:Nat) (l:List Nat):PM:={ M with ln:=fun s=>if s=r then l else M.ln s }
theorem get_modA {α:Type}{l:List α}{i t:Nat}{u:α}{g:α->α}(hu:l[i]? = some u):(l.modify i g)[t]? = if t=i then some (g u) else l[t]?:=by
 rw [List.getElem?_modify]
 by_cases e:i=t
 ·subst e;simp [hu]
 ·rw [if_neg (fun x=>e x.symm)];simp [e]
def overP (code who:Int) (ws:List Int) (got:Int) (p:PT):PT:={ p with st:=1,code:=code,who:=who,ws:=ws,got:=got,tgt:=0,pw:=[],item:=0,rt:=0,frm:=0,win:=0,wait:=0,time:=0 }
open Go.RowKit
structure Sd (key:Nat->Int) (P:Nat->Prop) (l:List Nat):Prop where
 mem:∀ t,t∈l↔P t
 srt:l.Pairwise (fun a b=>key a < key b)
section
variable {key key':Nat->Int}{P P':Nat->Prop}{l:List Nat}
theorem Sd.nodup (h:Sd key P l):l.Nodup:=h.srt.imp (fun h e=>by rw [e] at h;omega)
theorem Sd.congr (h:Sd key P l) (hp:∀ t,P t↔P' t) (hk:∀ t,P t->key' t=key t):Sd key' P' l:=
 ⟨fun t=>(h.mem t).trans (hp t),h.srt.imp_of_mem (fun {a b} ha hb hab=>by rw [hk a ((h.mem a).1 ha),hk b ((h.mem b).1 hb)];exact hab)⟩
theorem Sd.erase (h:Sd key P l) (t:Nat) (hp:∀ i,P' i↔P i/\i≠t) (hk:∀ i,P i->i≠t->key' i=key i):Sd key' P' (l.erase t):=by
 have h1:Sd key (fun i=>P i/\i≠t) (l.erase t):=⟨fun i=>by rw [h.nodup.mem_erase_iff,h.mem];exact and_comm,h.srt.sublist List.erase_sublist⟩
 exact h1.congr (fun i=>(hp i).symm) (fun i hi=>hk i hi.1 hi.2)
theorem Sd.comeLast (h:Sd key P l) (t:Nat) (hp:∀ i,P' i↔(P i/\i≠t)\/i=t) (hk:∀ i,P i->i≠t->key' i=key i/\key i < key' t):Sd key' P' (l.erase t ++ [t]):=by
 have h1:Sd key' (fun i=>P i/\i≠t) (l.erase t):=h.erase t (fun _=>Iff.rfl) (fun i hi hn=>(hk i hi hn).1)
 refine ⟨fun i=>?_,List.pairwise_append.2 ⟨h1.srt,by simp,fun a ha b hb=>?_⟩⟩
 ·rw [List.mem_append,h1.mem,List.mem_singleton,hp]
 ·rw [List.mem_singleton] at hb
  subst hb
  have h2:=(h1.mem a).1 ha
  have:=hk a h2.1 h2.2
  omega
theorem Sd.comeFirst (h:Sd key P l) (t:Nat) (hp:∀ i,P' i↔(P i/\i≠t)\/i=t) (hk:∀ i,P i->i≠t->key' i=key i/\key' t < key i):Sd key' P' (t :: l.erase t):=by
 have h1:Sd key' (fun i=>P i/\i≠t) (l.erase t):=h.erase t (fun _=>Iff.rfl) (fun i hi hn=>(hk i hi hn).1)
 refine ⟨fun i=>?_,List.pairwise_cons.2 ⟨fun b hb=>?_,h1.srt⟩⟩
 ·rw [List.mem_cons,h1.mem,hp];exact or_comm
 ·have h2:=(h1.mem b).1 hb
  have:=hk b h2.1 h2.2
  omega
end
def ordM (ts:List Th) (t:Nat):Int:=((ts[t]?).map Th.ord).getD 0
def turnM (ts:List Th) (t:Nat):Int:=((ts[t]?).map Th.turn).getD 0
def Inrow (ts:List Th) (r t:Nat):Prop:=∃ u,ts[t]? = some u/\u.st=1/\u.row=r
def Inwl (act:Nat->Prop) (ts:List Th) (r t:Nat):Prop:=∃ u,ts[t]? = some u/\u.st=2/\u.other=r/\¬ act t
section
variable {ts:List Th}{i t r:Nat}{u:Th}{g:Th->Th}{act act':Nat->Prop}
theorem get_mod (hu:ts[i]? = some u):(ts.modify i g)[t]? = if t=i then some (g u) else ts[t]?:=by
 rw [List.getElem?_modify]
 by_cases e:i=t
 ·subst e;simp [hu]
 ·rw [if_neg (fun x=>e x.symm)];simp [e]
theorem ordM_mod (hu:ts[i]? = some u):ordM (ts.modify i g) t=if t=i then (g u).ord else ordM ts t:=by
 unfold ordM;rw [get_mod hu];split <;> simp
theorem turnM_mod (hu:ts[i]? = some u):turnM (ts.modify i g) t=if t=i then (g u).turn else turnM ts t:=by
 unfold turnM;rw [get_mod hu];split <;> simp
theorem inrow_mod (hu:ts[i]? = some u):Inrow (ts.modify i g) r t↔(t=i/\(g u).st=1/\(g u).row=r)\/(t≠i/\Inrow ts r t):=by
 unfold Inrow
 rw [get_mod hu]
 by_cases e:t=i
 ·simp [e]
 ·simp [e]
theorem inwl_mod (hu:ts[i]? = some u):Inwl act (ts.modify i g) r t↔(t=i/\(g u).st=2/\(g u).other=r/\¬ act i)\/(t≠i/\Inwl act ts r t):=by
 unfold Inwl
 rw [get_mod hu]
 by_cases e:t=i
 ·simp [e]
 ·simp [e]
theorem inrow_at (hu:ts[i]? = some u):Inrow ts r i↔u.st=1/\u.row=r:=by
 unfold Inrow;rw [hu];simp
theorem inwl_at (hu:ts[i]? = some u):Inwl act ts r i↔u.st=2/\u.other=r/\¬ act i:=by
 unfold Inwl;rw [hu];simp
theorem ordM_at (hu:ts[i]? = some u):ordM ts i=u.ord:=by unfold ordM;rw [hu];rfl
theorem turnM_at (hu:ts[i]? = some u):turnM ts i=u.turn:=by unfold turnM;rw [hu];rfl
end
theorem curM_best (ts:List Th):∀ k,k<=ts.length->(curM ts k=-1/\∀ (i:Nat) u,i < k->ts[i]? = some u->u.st≠1) \/
  ∃ (j:Nat) (u:Th),curM ts k=j/\j < k/\ts[j]? = some u/\u.st=1/\∀ (i:Nat) v,i < k->ts[i]? = some v->v.st=1->v.row < u.row\/(v.row=u.row/\u.ord<=v.ord)
 | 0,_=>.inl ⟨rfl,fun i u h=>absurd h (by omega)⟩
 | k+1,h=>by
  obtain ⟨t,ht⟩:∃ t,ts[k]? = some t:=⟨_,List.getElem?_eq_getElem h⟩
  by_cases hst:t.st=1
  ·rcases curM_best ts k (by omega) with ⟨e,hn⟩ | ⟨j,u,e,hj,hu,h1,hb⟩
   ·refine .inr ⟨k,t,?_,by omega,ht,hst,fun i v hi hv hs=>?_⟩
    ·simp only [curM,curStep,ht,e];rw [if_neg (by omega),if_pos (by omega)]
    ·by_cases e2:i=k
     ·subst e2;rw [ht] at hv;cases hv;exact .inr ⟨rfl,Int.le_refl _⟩
     ·exact absurd hs (hn i v (by omega) hv)
   ·by_cases hc:u.row < t.row\/(t.row=u.row/\t.ord < u.ord)
    ·refine .inr ⟨k,t,?_,by omega,ht,hst,fun i v hi hv hs=>?_⟩
     ·simp only [curM,curStep,ht,e,Int.toNat_natCast,hu];rw [if_neg (by omega),if_neg (by omega),if_pos hc]
     ·by_cases e2:i=k
      ·subst e2;rw [ht] at hv;cases hv;exact .inr ⟨rfl,Int.le_refl _⟩
      ·have:=hb i v (by omega) hv hs;omega
    ·refine .inr ⟨j,u,?_,by omega,hu,h1,fun i v hi hv hs=>?_⟩
     ·simp only [curM,curStep,ht,e,Int.toNat_natCast,hu];rw [if_neg (by omega),if_neg (by omega),if_neg hc]
     ·by_cases e2:i=k
      ·subst e2;rw [ht] at hv;cases hv;omega
      ·exact hb i v (by omega) hv hs
  ·have e3:curM ts (k+1)=curM ts k:=by simp only [curM,curStep,ht];rw [if_pos hst]
   rw [e3]
   rcases curM_best ts k (by omega) with ⟨e,hn⟩ | ⟨j,u,e,hj,hu,h1,hb⟩
   ·refine .inl ⟨e,fun i v hi hv=>?_⟩
    by_cases e2:i=k
    ·subst e2;rw [ht] at hv;cases hv;exact hst
    ·exact hn i v (by omega) hv
   ·refine .inr ⟨j,u,e,by omega,hu,h1,fun i v hi hv hs=>?_⟩
    by_cases e2:i=k
    ·subst e2;rw [ht] at hv;cases hv;exact absurd hs hst
    ·exact hb i v (by omega) hv hs
theorem senM_best (ts:List Th) (t f:Int):∀ k,k<=ts.length->(senM ts t f k=-1/\∀ (i:Nat) u,i < k->ts[i]? = some u->¬ (u.st=2/\u.other=t/\(f=-1\/f=i))) \/
  ∃ (j:Nat) (u:Th),senM ts t f k=j/\j < k/\ts[j]? = some u/\(u.st=2/\u.other=t/\(f=-1\/f=j))/\∀ (i:Nat) v,i < k->ts[i]? = some v->v.st=2/\v.other=t/\(f=-1\/f=i)->u.turn<=v.turn
 | 0,_=>.inl ⟨rfl,fun i u h=>absurd h (by omega)⟩
 | k+1,h=>by
  obtain ⟨x,hx⟩:∃ x,ts[k]? = some x:=⟨_,List.getElem?_eq_getElem h⟩
  by_cases hs:x.st≠2\/x.other≠t\/(f≠-1/\f≠k)
  ·have e3:senM ts t f (k+1)=senM ts t f k:=by simp only [senM,senStep,hx];rw [if_pos hs]
   rw [e3]
   rcases senM_best ts t f k (by omega) with ⟨e,hn⟩ | ⟨j,u,e,hj,hu,h1,hb⟩
   ·refine .inl ⟨e,fun i v hi hv=>?_⟩
    by_cases e2:i=k
    ·subst e2;rw [hx] at hv;cases hv;omega
    ·exact hn i v (by omega) hv
   ·refine .inr ⟨j,u,e,by omega,hu,h1,fun i v hi hv hs2=>?_⟩
    by_cases e2:i=k
    ·subst e2;rw [hx] at hv;cases hv;omega
    ·exact hb i v (by omega) hv hs2
  ·have hs':x.st=2/\x.other=t/\(f=-1\/f=k):=by omega
   rcases senM_best ts t f k (by omega) with ⟨e,hn⟩ | ⟨j,u,e,hj,hu,h1,hb⟩
   ·refine .inr ⟨k,x,?_,by omega,hx,hs',fun i v hi hv hs2=>?_⟩
    ·simp only [senM,senStep,hx,e];rw [if_neg hs,if_pos (by omega)]
    ·by_cases e2:i=k
     ·subst e2;rw [hx] at hv;cases hv;exact Int.le_refl _
     ·exact absurd hs2 (hn i v (by omega) hv)
   ·by_cases hc:x.turn < u.turn
    ·refine .inr ⟨k,x,?_,by omega,hx,hs',fun i v hi hv hs2=>?_⟩
     ·simp only [senM,senStep,hx,e,Int.toNat_natCast,hu];rw [if_neg hs,if_neg (by omega),if_pos hc]
     ·by_cases e2:i=k
      ·subst e2;rw [hx] at hv;cases hv;exact Int.le_refl _
      ·have:=hb i v (by omega) hv hs2;omega
    ·refine .inr ⟨j,u,?_,by omega,hu,h1,fun i v hi hv hs2=>?_⟩
     ·simp only [senM,senStep,hx,e,Int.toNat_natCast,hu];rw [if_neg hs,if_neg (by omega),if_neg hc]
     ·by_cases e2:i=k
      ·subst e2;rw [hx] at hv;cases hv;omega
      ·exact hb i v (by omega) hv hs2
def TimeR (u t:Int):Prop:=(u=0/\t=-1)\/∃ z:Int,u=z % 18446744073709551616/\t=wrap64 z
theorem TimeR.at {u t c:Int}(h:TimeR u t) (c0:1<=c) (c1:c<=4611686018427387904):u=c↔t=c:=by
 rcases h with ⟨rfl,rfl⟩ | ⟨z,rfl,rfl⟩
 ·omega
 ·unfold wrap64;omega
structure RelT (act:Nat->Prop) (n:Nat) (i:Nat) (t:Th) (p:PT):Prop where
 sp:p.sp=t.sp
 row:p.row=t.row
 left:p.left=t.left
 st:p.st=t.st
 code:p.code=t.code
 who:p.who=t.who
 ws:p.ws=t.ws
 got:p.got=t.got
 idle:t.st=1->t.time=-1/\(¬ act i->p.time=0)
 talk:t.st≠1\/act i->p.frm=t.frm/\p.win=t.win/\p.wait=t.wait/\(p.wait<=0->p.time=0)/\-1<=p.win
 time:t.st≠1->¬ act i->TimeR p.time t.time
 send:t.st=2->¬ act i->(∃ r:Nat,t.other=r/\r < n)/\p.tgt=t.other/\p.pw=t.mw/\p.item=(if t.lends=true then t.item else -1)/\p.rt=t.rt/\-1<=t.item/\t.item<=5
structure Rel (act:Nat->Prop) (M:PM) (K:RM):Prop where
 len:M.threads.length=K.threads.length
 th:∀ (i:Nat) t p,K.threads[i]? = some t->M.threads[i]? = some p->RelT act K.threads.length i t p
 rows:∀ r,r < 4->Sd (ordM K.threads) (Inrow K.threads r) (M.ln r)
 wl:∀ (r:Nat) p,M.threads[r]? = some p->Sd (turnM K.threads) (Inwl act K.threads r) p.wl
 sp:M.sp=K.sp
 ps:M.passes=K.passes
 lf:M.leaves=K.leaves
 fr:M.fr=K.fr
 cl:M.clock=K.clock
theorem Rel.get {act:Nat->Prop}{M:PM}{K:RM}(h:Rel act M K){i:Nat}{t:Th}(ht:K.threads[i]? = some t):∃ p,M.threads[i]? = some p/\RelT act K.threads.length i t p:=by
 have hl:i < M.threads.length:=by rw [h.len];exact (List.getElem?_eq_some_iff.1 ht).1
 exact ⟨_,List.getElem?_eq_getElem hl,h.th i t _ ht (List.getElem?_eq_getElem hl)⟩
theorem Rel.cur_none {act:Nat->Prop}{M:PM}{K:RM}(h:Rel act M K) (ft:K.Fit) (hn:∀ r,r < 4->M.ln r=[]):K.cur=-1:=by
 rcases curM_best K.threads K.threads.length (Nat.le_refl _) with ⟨e,_⟩ | ⟨j,u,e,hj,hu,h1,_⟩
 ·exact e
 ·have f:=ft.th j u hu
  have hm:j∈M.ln u.row.toNat:=((h.rows u.row.toNat (by have:=f.r1;omega)).mem j).2 ⟨u,hu,h1,by have:=f.r0;omega⟩
  rw [hn _ (by have:=f.r1;omega)] at hm
  simp at hm
theorem Rel.cur_head {act:Nat->Prop}{M:PM}{K:RM}(h:Rel act M K) (ft:K.Fit){r t:Nat}{rest:List Nat}(h4:r < 4) (hr:M.ln r=t :: rest) (hi:∀ s,r < s->s < 4->M.ln s=[]):K.cur=t:=by
 have S:=h.rows r h4
 obtain ⟨v,hv,v1,v2⟩:=(S.mem t).1 (by rw [hr];simp)
 have hvl:=(List.getElem?_eq_some_iff.1 hv).1
 rcases curM_best K.threads K.threads.length (Nat.le_refl _) with ⟨_,hno⟩ | ⟨j,u,e,hj,hu,h1,hb⟩
 ·exact absurd v1 (hno t v hvl hv)
 ·have f:=ft.th j u hu
  have b:=hb t v hvl hv v1
  have hm:j∈M.ln u.row.toNat:=((h.rows u.row.toNat (by have:=f.r1;omega)).mem j).2 ⟨u,hu,h1,by have:=f.r0;omega⟩
  have h2:u.row.toNat<=r:=by
   rcases Nat.lt_or_ge r u.row.toNat with hlt | hge
   ·rw [hi _ hlt (by have:=f.r1;omega)] at hm;simp at hm
   ·exact hge
  have hrr:u.row.toNat=r:=by have:=f.r0;omega
  rw [hrr,hr] at hm
  show curM K.threads K.threads.length=t
  rw [e]
  rcases List.mem_cons.1 hm with e2 | hm
  ·rw [e2]
  ·have hp:=S.srt
   rw [hr] at hp
   have:=(List.pairwise_cons.1 hp).1 j hm
   rw [ordM_at hv,ordM_at hu] at this
   omega
theorem Rel.sen {act:Nat->Prop}{M:PM}{K:RM}(h:Rel act M K) (ft:K.Fit){t:Nat}{p:PT}(hp:M.threads[t]? = some p) (f:Int) (ha:∀ i,act i->i=t) :
  (∀ s,p.wl.find? (fun (i:Nat)=>f == -1 || f == (i:Int))=some s->senM K.threads t f K.threads.length=s/\s∈p.wl/\s≠t)/\(p.wl.find? (fun (i:Nat)=>f == -1 || f == (i:Int))=none->senM K.threads t f K.threads.length=-1):=by
 have S:=h.wl t p hp
 have hin:∀ (i:Nat) u,K.threads[i]? = some u->u.st=2->u.other=t->i∈p.wl:=fun i u hu h1 h2=>(S.mem i).2 ⟨u,hu,h1,h2,fun hai=>(ft.th i u hu).ot h1 (by rw [h2,ha i hai])⟩
 constructor
 ·intro s hs
  have hm:=List.mem_of_find?_eq_some hs
  have hq:=List.find?_some hs
  have hq:f=-1\/f=(s:Int):=by simpa using hq
  obtain ⟨v,hv,v1,v2,v3⟩:=(S.mem s).1 hm
  have hvl:=(List.getElem?_eq_some_iff.1 hv).1
  refine ⟨?_,hm,fun e=>?_⟩
  ·rcases senM_best K.threads t f K.threads.length (Nat.le_refl _) with ⟨_,hno⟩ | ⟨j,u,e,hj,hu,hc,hb⟩
   ·exact absurd ⟨v1,v2,hq⟩ (hno s v hvl hv)
   ·rw [e]
    have b:=hb s v hvl hv ⟨v1,v2,hq⟩
    have hjm:=hin j u hu hc.1 hc.2.1
    by_cases ejs:j=s
    ·rw [ejs]
    ·exfalso
     obtain ⟨h0,xs,ys,hl,hfalse⟩:=List.find?_eq_some_iff_append.1 hs
     rw [hl] at hjm
     rcases List.mem_append.1 hjm with hj1 | hj1
     ·have:=hfalse j hj1
      have hc3:=hc.2.2
      simp at this
      omega
     ·rcases List.mem_cons.1 hj1 with hj2 | hj2
      ·exact ejs hj2
      ·have hs2:=S.srt
       rw [hl] at hs2
       have h3:=(List.pairwise_cons.1 (List.pairwise_append.1 hs2).2.1).1 j hj2
       rw [turnM_at hv,turnM_at hu] at h3
       omega
  ·subst e
   exact (ft.th s v hv).ot v1 v2
 ·intro hn
  rcases senM_best K.threads t f K.threads.length (Nat.le_refl _) with ⟨e,_⟩ | ⟨j,u,e,hj,hu,hc,hb⟩
  ·exact e
  ·have hjm:=hin j u hu hc.1 hc.2.1
   have:=List.find?_eq_none.1 hn j hjm
   have hc3:=hc.2.2
   simp at this
   omega
open Go.RowKit
structure CloD (P:RM->Prop) (D:Nat->Nat->Prop):Prop where
 over:∀ K t e,P K->P (K.over t e)
 toFirst:∀ K t,P K->P (K.toFirst t)
 toLast:∀ K t,P K->P (K.toLast t)
 recvs:∀ K t,P K->P (K.waits t 3 (-1))
 sends:∀ K t (r:Nat),P K->D t r->P (K.waits t 2 r)
 deliver:∀ K s r,P K->D s r->P (K.deliver s r)
 asks:∀ K t m,P K->P (K.asks t m)
 lendsTo:∀ K t x,P K->P (K.lendsTo t x)
 setLeft:∀ K t n,P K->P (K.setLeft t n)
 ticked:∀ K,P K->P K.ticked
 sen:∀ K (s t:Nat) u,P K->K.threads[s]? = some u->u.st=2->u.other=t->D s t
 pass:∀ K (i:Nat) u p,P K->K.threads[i]? = some u->p∈K.passes->p.1=u.sp->¬ bits .and .i64 p.2.2.2 1=0->D i p.2.2.1.toNat
section
variable {P:RM->Prop}{D:Nat->Nat->Prop}(C:CloD P D)
include C
theorem CloD.goesOf {n:Nat}(hr:∀ K t stands,P K->P (RM.recv n K t stands)){K:RM}(s:Nat) (stands:Bool) (h:P K):P (K.goes n s stands):=by
 unfold RM.goes
 split
 ·exact h
 ·split
  ·exact hr _ _ _ h
  ·split
   ·exact C.over _ _ _ h
   ·exact C.toLast _ _ (C.over _ _ _ h)
theorem CloD.recv:∀ (n:Nat) (K:RM) (t:Nat) (stands:Bool),P K->P (RM.recv n K t stands):=by
 intro n
 induction n with
 | zero=>intro K t stands h;exact h
 | succ n ih=>
  intro K t stands h
  rcases hx:K.threads[t]? with _ | x
  ·simp only [RM.recv,hx];exact h
  ·rcases senM_best K.threads t x.frm K.threads.length (Nat.le_refl _) with ⟨e,_⟩ | ⟨j,u,e,hj,hu,hc,_⟩
   ·rw [recv_none hx (by omega)]
    split
    ·exact C.recvs _ _ h
    ·split
     ·exact C.over _ _ _ h
     ·exact C.toLast _ _ (C.over _ _ _ h)
   ·rw [recv_some hx e]
    have hd:=C.sen K j t u h hu hc.1 hc.2.1
    refine C.goesOf ih _ _ ?_
    unfold RM.heard
    split
    ·exact C.deliver _ _ _ h hd
    ·exact C.toFirst _ _ (C.deliver _ _ _ h hd)
theorem CloD.sendsTo {K:RM}(t r:Nat) (m:Ms) (h:P K) (hd:D t r):P (K.sends t r m):=by
 unfold RM.sends
 split
 ·exact h
 ·split
  ·exact C.goesOf (C.recv 7) _ _ (C.toFirst _ _ (C.deliver _ _ _ h hd))
  ·split
   ·exact C.over _ _ _ h
   ·exact C.sends _ _ _ h hd
theorem CloD.ipc {K:RM}(m:Ms) (h:P K):P (K.ipc m).2:=by
 unfold RM.ipc
 have ho:=C.over _ K.cur.toNat 4 (C.asks _ K.cur.toNat m h)
 split
 ·exact h
 ·split
  ·exact h
  ·split
   ·exact C.recv 7 _ _ _ (C.asks _ _ m h)
   ·split
    ·exact h
    ·rename_i u hu
     split
     ·exact ho
     ·rename_i p hp
      split
      ·exact ho
      ·rename_i hne
       have hm:=List.mem_of_find?_eq_some (show List.find? _ K.passes=some p from hp)
       have hq:=List.find?_some (show List.find? _ K.passes=some p from hp)
       have hq1:p.1=u.sp:=by simp at hq;exact hq.1
       exact C.sendsTo _ _ _ (C.lendsTo _ _ _ (C.asks _ _ m h)) (C.pass K _ u p h hu hm hq1 (fun e=>hne (.inl e)))
theorem CloD.tickTo {K:RM}(h:P K):∀ i,P (K.tickTo i)
 | 0=>h
 | i+1=>by
  have ih:=CloD.tickTo h i
  simp only [RM.tickTo]
  split
  ·exact ih
  ·split
   ·exact C.toLast _ _ (C.over _ _ _ ih)
   ·exact ih
theorem CloD.spent {K:RM}(h:P K):P K.spent:=by
 unfold RM.spent
 split
 ·exact h
 ·split
  ·exact h
  ·split
   ·exact C.toLast _ _ (C.setLeft _ _ _ h)
   ·exact C.setLeft _ _ _ h
theorem CloD.tick {K:RM}(h:P K):P K.tick:=C.tickTo (C.spent (C.ticked _ h)) _
theorem CloD.yield {K:RM}(h:P K):P K.yield.2:=by
 unfold RM.yield
 split
 ·exact h
 ·exact C.toLast _ _ (C.setLeft _ _ _ h)
end
def hadQ (Q:List (Int×Int×Int×Int)) (s t a:Int):Prop:=∃ q∈Q,q.1=s/\q.2.2.1=t/\hasRt q.2.2.2 a=true
theorem hasRt_trans {a b c:Int}(h1:hasRt a b=true) (h2:hasRt b c=true):hasRt a c=true:=by
 unfold hasRt at *
 simp at *
 omega
def May (T:List (Int×Int)) (Q:List (Int×Int×Int×Int)) (s r:Nat):Prop:=∃ p,T[s]? = some p/\hadQ Q p.1 r 1
structure Bd (T:List (Int×Int)) (Q L:List (Int×Int×Int×Int)) (K:RM):Prop where
 pl:∀ (i:Nat) u,K.threads[i]? = some u->∃ p,T[i]? = some p/\u.sp=p.1/\u.row=p.2
 ps:∀ p∈K.passes,hadQ Q p.1 p.2.2.1 p.2.2.2/\1<=p.2.2.2/\p.2.2.2<=3/\0<=p.2.2.1
 lf:∀ l∈K.leaves,okLf l/\∃ q∈L,q.2.2.1=l.fr/\hasRt q.2.2.2 l.rt=true
 sn:∀ (i:Nat) u,K.threads[i]? = some u->u.st=2->∃ r:Nat,u.other=r/\May T Q i r
 wh:∀ (i:Nat) u,K.threads[i]? = some u->u.who=-1\/∃ s:Nat,u.who=s/\May T Q s i
section
variable {T:List (Int×Int)}{Q L:List (Int×Int×Int×Int)}
theorem Bd.upd {K K':RM}(h:Bd T Q L K){r:Nat}{f:Th->Th}(ht:K'.threads=K.threads.modify r f) (hp:K'.passes=K.passes) (hl:∀ l∈K'.leaves,okLf l/\∃ q∈L,q.2.2.1=l.fr/\hasRt q.2.2.2 l.rt=true) (hf:∀ u,(f u).sp=u.sp/\(f u).row=u.row)
  (hs:∀ u,K.threads[r]? = some u->(f u).st=2->∃ o:Nat,(f u).other=o/\May T Q r o) (hw:∀ u,K.threads[r]? = some u->(f u).who=-1\/∃ s:Nat,(f u).who=s/\May T Q s r):Bd T Q L K':=by
 refine ⟨fun i u hu=>?_,by rw [hp];exact h.ps,hl,fun i u hu s2=>?_,fun i u hu=>?_⟩
 ·rw [ht] at hu
  obtain ⟨x,hx,c⟩:=upd_get (K:=K) (f:=f) hu
  obtain ⟨p,hp,e1,e2⟩:=h.pl i x hx
  refine ⟨p,hp,?_⟩
  rcases c with ⟨_,rfl⟩ | ⟨_,rfl⟩
  ·rw [(hf x).1,(hf x).2];exact ⟨e1,e2⟩
  ·exact ⟨e1,e2⟩
 ·rw [ht] at hu
  obtain ⟨x,hx,⟨rfl,rfl⟩ | ⟨_,rfl⟩⟩:=upd_get (K:=K) (f:=f) hu
  ·exact hs x hx s2
  ·exact h.sn i _ hx s2
 ·rw [ht] at hu
  obtain ⟨x,hx,⟨rfl,rfl⟩ | ⟨_,rfl⟩⟩:=upd_get (K:=K) (f:=f) hu
  ·exact hw x hx
  ·exact h.wh i _ hx
theorem and_part {r a:Int}(h:r=1\/r=2) (hz:¬ bits .and .i64 r a=0):bits .and .i64 r a=r:=by
 have hb:bits .and .i64 r a=IntKind.i64.wrap ((BitVec.ofInt 64 r &&& BitVec.ofInt 64 a).toNat:Int):=rfl
 rcases h with rfl | rfl
 ·have hn:(BitVec.ofInt 64 1 &&& BitVec.ofInt 64 a).toNat<=1:=by
   rw [BitVec.toNat_and];exact Nat.le_trans Nat.and_le_left (by decide)
  generalize (BitVec.ofInt 64 1 &&& BitVec.ofInt 64 a).toNat=n at hb hn
  have hn':n=0\/n=1:=by omega
  rcases hn' with rfl | rfl
  ·exact absurd (hb.trans rfl) hz
  ·exact hb.trans rfl
 ·have hn:(BitVec.ofInt 64 2 &&& BitVec.ofInt 64 a).toNat<=2:=by
   rw [BitVec.toNat_and];exact Nat.le_trans Nat.and_le_left (by decide)
  have h0:(BitVec.ofInt 64 2 &&& BitVec.ofInt 64 a).toNat.testBit 0=false:=by
   rw [BitVec.toNat_and,Nat.testBit_and]
   have:(BitVec.ofInt 64 2).toNat.testBit 0=false:=by decide
   rw [this];rfl
  generalize (BitVec.ofInt 64 2 &&& BitVec.ofInt 64 a).toNat=n at hb hn h0
  have hn':n=0\/n=1\/n=2:=by omega
  rcases hn' with rfl | rfl | rfl
  ·exact absurd (hb.trans rfl) hz
  ·simp at h0
  ·exact hb.trans rfl
theorem hasRt_and {q r a:Int}(h:hasRt q r=true) (h1:1<=r) (h3:r<=3) (hz:¬ bits .and .i64 r a=0):hasRt q (bits .and .i64 r a)=true:=by
 by_cases e:r=1\/r=2
 ·rw [and_part e hz];exact h
 ·have:r=3:=by omega
  subst this
  unfold hasRt at *
  simp at *
  left;exact h
theorem Bd.lend {Lv:List Lf}(h:∀ l∈Lv,okLf l/\∃ q∈L,q.2.2.1=l.fr/\hasRt q.2.2.2 l.rt=true) (a b:Th):∀ l∈(lendL Lv a b).1,okLf l/\∃ q∈L,q.2.2.1=l.fr/\hasRt q.2.2.2 l.rt=true:=by
 have hg:∀ l∈goneL Lv b.sp b.win true,okLf l/\∃ q∈L,q.2.2.1=l.fr/\hasRt q.2.2.2 l.rt=true:=fun l hl=>h l (mem_gone.1 hl).1
 unfold lendL
 split
 ·exact h
 ·split
  ·exact hg
  ·rename_i l hl
   have hm:=hg l (List.mem_of_find?_eq_some hl)
   split
   ·exact hg
   ·rename_i hz
    intro q hq
    rcases List.mem_append.1 hq with hq | hq
    ·exact hg q hq
    ·rw [List.mem_singleton] at hq
     rw [hq]
     obtain ⟨ho,p,hp,e1,e2⟩:=hm
     exact ⟨⟨ho.1,ho.2.1,and3 ho.2.2.1 ho.2.2.2 hz⟩,p,hp,e1,hasRt_and e2 ho.2.2.1 ho.2.2.2 hz⟩
theorem bd_clo:CloD (Bd T Q L) (May T Q):=by
 refine ⟨fun K t e h=>?_,fun K t h=>?_,fun K t h=>?_,fun K t h=>?_,fun K t r h hd=>?_,fun K s r h hd=>?_,fun K t m h=>?_,fun K t x h=>?_,fun K t n h=>?_,fun K h=>⟨h.pl,h.ps,h.lf,h.sn,h.wh⟩,fun K s t u h hu s2 ho=>?_,fun K i u p h hu hp e hb=>?_⟩
 ·exact h.upd rfl rfl h.lf (by intro u;exact ⟨rfl,rfl⟩) (fun u hu e=>absurd e (show ¬ (1:Int)=2 by decide)) (fun u hu=>.inl rfl)
 ·exact h.upd rfl rfl h.lf (by intro u;exact ⟨rfl,rfl⟩) (fun u hu e=>h.sn _ u hu e) (fun u hu=>h.wh _ u hu)
 ·exact h.upd rfl rfl h.lf (by intro u;exact ⟨rfl,rfl⟩) (fun u hu e=>h.sn _ u hu e) (fun u hu=>h.wh _ u hu)
 ·exact h.upd rfl rfl h.lf (by intro u;exact ⟨rfl,rfl⟩) (fun u hu e=>absurd e (show ¬ (3:Int)=2 by decide)) (fun u hu=>h.wh _ u hu)
 ·exact h.upd rfl rfl h.lf (by intro u;exact ⟨rfl,rfl⟩) (fun u hu e=>⟨r,rfl,hd⟩) (fun u hu=>h.wh _ u hu)
 ·unfold RM.deliver
  split
  ·exact h.upd rfl rfl (Bd.lend h.lf _ _) (by intro u;exact ⟨rfl,rfl⟩) (fun u hu e=>absurd e (show ¬ (1:Int)=2 by decide)) (fun u hu=>.inr ⟨s,rfl,hd⟩)
  ·exact h
 ·exact h.upd rfl rfl h.lf (by intro u;exact ⟨rfl,rfl⟩) (fun u hu e=>h.sn _ u hu e) (fun u hu=>h.wh _ u hu)
 ·exact h.upd rfl rfl h.lf (by intro u;exact ⟨rfl,rfl⟩) (fun u hu e=>h.sn _ u hu e) (fun u hu=>h.wh _ u hu)
 ·exact h.upd rfl rfl h.lf (by intro u;exact ⟨rfl,rfl⟩) (fun u hu e=>h.sn _ u hu e) (fun u hu=>h.wh _ u hu)
 ·obtain ⟨r,e,hd⟩:=h.sn s u hu s2
  have:r=t:=by omega
  rw [<- this];exact hd
 ·obtain ⟨⟨q,hq,e1,e2,e3⟩,r1,r3,t0⟩:=h.ps p hp
  obtain ⟨pl,hpl,es,_⟩:=h.pl i u hu
  refine ⟨pl,hpl,q,hq,by rw [e1,e,es],by rw [e2];omega,hasRt_trans e3 ?_⟩
  have hr:p.2.2.2=1\/p.2.2.2=2\/p.2.2.2=3:=by omega
  have:=bits_rt hr (a:=1) (.inl rfl)
  cases hh:hasRt p.2.2.2 1 with
  | true=>rfl
  | false=>rw [hh] at this;simp at this;exact absurd this hb
theorem Bd.stored {K:RM}(h:Bd T Q L K) (pg ce v:Int):Bd T Q L (K.stored pg ce v):=by
 unfold RM.stored
 split
 ·exact ⟨h.pl,h.ps,h.lf,h.sn,h.wh⟩
 ·exact h
theorem Bd.unmap {K:RM}(h:Bd T Q L K) (pg:Int) (own:Bool):Bd T Q L (K.unmap pg own).2:=by
 unfold RM.unmap
 split
 ·exact h
 ·split
  ·split
   ·exact ⟨h.pl,h.ps,fun l hl=>h.lf l (mem_gone.1 hl).1,h.sn,h.wh⟩
   ·exact h
  ·exact h
theorem Bd.drop {K:RM}(h:Bd T Q L K) (a:Int):Bd T Q L (K.drop a).2:=by
 unfold RM.drop
 split
 ·exact h
 ·split
  ·split
   ·exact ⟨h.pl,fun p hp=>by obtain ⟨i,hi⟩:=List.getElem?_of_mem hp;obtain ⟨j,hj⟩:=outQ_mem hi;exact h.ps p (List.mem_of_getElem? hj),h.lf,h.sn,h.wh⟩
   ·exact h
  ·exact h
theorem Bd.derive {K:RM}(h:Bd T Q L K) (a b r:Int):Bd T Q L (K.derive a b r).2:=by
 unfold RM.derive
 split
 ·exact h
 ·split
  ·rename_i hc
   split
   ·rename_i p hp
    split
    ·rename_i hr
     refine ⟨h.pl,fun q hq=>?_,h.lf,h.sn,h.wh⟩
     rcases putQ_mem hq with rfl | hm
     ·have hm:=List.mem_of_find?_eq_some (show List.find? _ K.passes=some p from hp)
      have hq:=List.find?_some (show List.find? _ K.passes=some p from hp)
      have hq1:p.1=K.home:=by simp at hq;exact hq.1
      obtain ⟨⟨q,hq,e1,e2,e3⟩,r1,r3,t0⟩:=h.ps p hm
      have i2:=inI_true.1 hc.2.2
      exact ⟨⟨q,hq,by rw [e1,hq1],e2,hasRt_trans e3 hr⟩,i2.1,i2.2,t0⟩
     ·exact h.ps q hm
    ·exact h
   ·exact h
  ·exact h
theorem hasRt_self (a:Int):hasRt a a=true:=by unfold hasRt;simp
theorem bd_new {sp:Int}(hf:Fits sp T Q L):Bd T Q L (RK.new sp T Q L).up:=by
 obtain ⟨⟨s1,s2⟩,⟨t1,t2⟩,ot,oq,aq,ol,al⟩:=hf
 have hs:∀ (i:Nat) t,(RK.new sp T Q L).up.threads[i]? = some t->∃ u,(born 0 T)[i]? = some u/\t=thOf u:=fun i t ht=>by
  have ht2:((born 0 T).map thOf)[i]? = some t:=ht
  rw [List.getElem?_map] at ht2
  rcases hx:(born 0 T)[i]? with _ | u
  ·rw [hx] at ht2;simp at ht2
  ·rw [hx] at ht2;simp at ht2;exact ⟨u,rfl,ht2.symm⟩
 refine ⟨fun i u hu=>?_,fun p hp=>?_,fun l hl=>?_,fun i u hu s2=>?_,fun i u hu=>?_⟩
 ·obtain ⟨v,hv,rfl⟩:=hs i u hu
  obtain ⟨p,hp,e1,e2,_⟩:=born_at 0 i v hv
  exact ⟨p,hp,e1,e2⟩
 ·obtain ⟨i,hi⟩:=List.getElem?_of_mem (show p∈Q from hp)
  have:=oq i p hi
  unfold okQ at this
  exact ⟨⟨p,hp,rfl,rfl,hasRt_self _⟩,by omega,by omega,by omega⟩
 ·obtain ⟨p,hp,rfl⟩:=List.mem_map.1 (show l∈L.map lfOf from hl)
  obtain ⟨i,hi⟩:=List.getElem?_of_mem hp
  have:=ol i p hi
  unfold okQ at this
  exact ⟨⟨by show 0<=p.2.2.1;omega,by show p.2.2.1<=7;omega,by show 1<=p.2.2.2;omega,by show p.2.2.2<=3;omega⟩,p,hp,rfl,hasRt_self _⟩
 ·obtain ⟨v,hv,rfl⟩:=hs i u hu
  simp [thOf] at s2
 ·obtain ⟨v,hv,rfl⟩:=hs i u hu
  exact .inl rfl
end
def Rv (L:List (Int×Int×Int×Int)) (Lv:List Lf):Prop:=∀ l∈Lv,(l.usp=-1/\∃ q∈L,q.1=l.sp/\q.2.1=l.pg/\q.2.2.1=l.fr)\/(∃ p∈Lv,p.sp=l.usp/\p.pg=l.upg/\p.fr=l.fr)
section
variable {L:List (Int×Int×Int×Int)}
theorem Rv.gone {Lv:List Lf}(h:Rv L Lv) (s n:Int) (own:Bool):Rv L (goneL Lv s n own):=by
 intro l hl
 obtain ⟨hm,hu,ho⟩:=mem_gone.1 hl
 rcases h l hm with h1 | ⟨p,hp,e1,e2,e3⟩
 ·exact .inl h1
 ·refine .inr ⟨p,mem_gone.2 ⟨hp,fun hup=>hu (.step l p hp e1 e2 hup),fun h=>hu (.base l (by rw [<- e1];exact h.2.1) (by rw [<- e2];exact h.2.2))⟩,e1,e2,e3⟩
theorem Rv.lend {Lv:List Lf}(h:Rv L Lv) (a b:Th):Rv L (lendL Lv a b).1:=by
 unfold lendL
 split
 ·exact h
 ·split
  ·exact h.gone _ _ _
  ·rename_i l hl
   split
   ·exact h.gone _ _ _
   ·have hm:=List.mem_of_find?_eq_some hl
    have hq:=List.find?_some hl
    simp at hq
    intro q hq2
    rcases List.mem_append.1 hq2 with hq2 | hq2
    ·rcases h.gone _ _ _ q hq2 with h1 | ⟨p,hp,e⟩
     ·exact .inl h1
     ·exact .inr ⟨p,List.mem_append.2 (.inl hp),e⟩
    ·rw [List.mem_singleton] at hq2
     rw [hq2]
     exact .inr ⟨l,List.mem_append.2 (.inl hm),hq.1,hq.2,rfl⟩
theorem rv_clo:Clo (fun _ K=>Rv L K.leaves):=by
 refine ⟨fun _ _ _ _ h=>h,fun b K t e h=>h,fun b K t h=>h,fun b K t h=>h,fun b K t st o h _=>h,fun b K s r h=>?_,fun b K t m h=>h,fun b K t m h=>h,fun b K t m h=>h⟩
 unfold RM.deliver
 split
 ·exact Rv.lend h _ _
 ·exact h
theorem rv_unmap {K:RM}(h:Rv L K.leaves) (pg:Int) (own:Bool):Rv L (K.unmap pg own).2.leaves:=by
 unfold RM.unmap
 split
 ·exact h
 ·split
  ·split
   ·exact h.gone _ _ _
   ·exact h
  ·exact h
theorem rv_new {sp:Int}{T:List (Int×Int)}{Q:List (Int×Int×Int×Int)}:Rv L (RK.new sp T Q L).up.leaves:=by
 intro l hl
 obtain ⟨p,hp,rfl⟩:=List.mem_map.1 (show l∈L.map lfOf from hl)
 exact .inl ⟨rfl,p,hp,rfl,rfl,rfl⟩
theorem Rv.root {Lv:List Lf}(h:Rv L Lv){r:Int->Int->Nat}(hk:Kin r Lv) (ha:ApL Lv):∀ (n:Nat) (l:Lf),r l.sp l.pg < n->l∈Lv->∃ q∈L,q.2.2.1=l.fr/\∃ l0∈Lv,l0.sp=q.1/\l0.pg=q.2.1/\l0.fr=l.fr/\l0.usp=-1/\(l0=l\/Und Lv q.1 q.2.1 l)
 | 0,l,hn,_=>absurd hn (by omega)
 | n+1,l,hn,hl=>by
  have hkl:=hk l hl
  rcases h l hl with ⟨e,q,hq,e1,e2,e3⟩ | ⟨p,hp,e1,e2,e3⟩
  ·exact ⟨q,hq,e3,l,hl,e1.symm,e2.symm,rfl,e,.inl rfl⟩
  ·have hkp:=hk p hp
   rcases hkl.2 with ⟨e4,_⟩ | ⟨p2,hp2,f1,f2,f3⟩
   ·have:=hkp.1;omega
   ·have:p2=p:=ha.eq hp2 hp (by rw [f1,e1]) (by rw [f2,e2])
    subst this
    obtain ⟨q,hq,g1,l0,hl0,g2,g3,g4,g5,g6⟩:=Rv.root h hk ha n p2 (by omega) hp2
    refine ⟨q,hq,by rw [g1,e3],l0,hl0,g2,g3,by rw [g4,e3],g5,.inr ?_⟩
    rcases g6 with rfl | g6
    ·exact .base l (by rw [<- g2,e1]) (by rw [<- g3,e2])
    ·exact .step l p2 hp2 e1 e2 g6
end
open Go.RowKit
def Z0 (T:List (Int×Int)) (i:Nat):Prop:=∃ p,T[i]? = some p/\p.1=0
structure Sdd (T:List (Int×Int)) (F:Int->Prop) (K:RM):Prop where
 ln:K.threads.length=T.length
 pl:∀ (i:Nat) u,K.threads[i]? = some u->0<=u.sp/\∃ p,T[i]? = some p/\u.sp=p.1/\u.row=p.2
 ps:∀ p∈K.passes,0<=p.2.2.1/\(p.1=0↔Z0 T p.2.2.1.toNat)
 sn:∀ (i:Nat) u,K.threads[i]? = some u->u.st=2->∃ r:Nat,u.other=r/\(Z0 T i↔Z0 T r)
 lf:∀ l∈K.leaves,0<=l.sp/\0<=l.fr/\(l.sp=0->(l.usp=-1\/l.usp=0)/\F l.fr)/\(l.sp≠0->l.usp≠0/\¬ F l.fr)
theorem mod_ne {α:Type}{l:List α}{r i:Nat}(f:α->α) (h:r≠i):(l.modify r f)[i]? = l[i]?:=by
 rw [List.getElem?_modify]
 cases l[i]? <;> simp [h]
section
variable {T:List (Int×Int)}{F:Int->Prop}
theorem Sdd.z {K:RM}(h:Sdd T F K){i:Nat}{u:Th}(hu:K.threads[i]? = some u):Z0 T i↔u.sp=0:=by
 obtain ⟨_,p,hp,e,_⟩:=h.pl i u hu
 constructor
 ·rintro ⟨q,hq,e2⟩;rw [hp] at hq;cases hq;omega
 ·intro e2;exact ⟨p,hp,by omega⟩
theorem Sdd.at {K K':RM}(h:Sdd T F K) (h':Sdd T F K'){i:Nat}{u:Th}(hu:K.threads[i]? = some u):∃ u',K'.threads[i]? = some u':=
 ⟨_,List.getElem?_eq_getElem (by rw [h'.ln,<- h.ln];exact (List.getElem?_eq_some_iff.1 hu).1)⟩
theorem Sdd.upd {K K':RM}(h:Sdd T F K){r:Nat}{f:Th->Th}(ht:K'.threads=K.threads.modify r f) (hp:K'.passes=K.passes) (hl:∀ l∈K'.leaves,0<=l.sp/\0<=l.fr/\(l.sp=0->(l.usp=-1\/l.usp=0)/\F l.fr)/\(l.sp≠0->l.usp≠0/\¬ F l.fr)) (hf:∀ u,(f u).sp=u.sp/\(f u).row=u.row)
  (hs:∀ u,K.threads[r]? = some u->(f u).st=2->∃ o:Nat,(f u).other=o/\(Z0 T r↔Z0 T o)):Sdd T F K':=by
 refine ⟨by rw [ht];simp [h.ln],fun i u hu=>?_,by rw [hp];exact h.ps,fun i u hu s2=>?_,hl⟩
 ·rw [ht] at hu
  obtain ⟨x,hx,c⟩:=upd_get (K:=K) (f:=f) hu
  have:=h.pl i x hx
  rcases c with ⟨_,rfl⟩ | ⟨_,rfl⟩
  ·rw [(hf x).1,(hf x).2];exact this
  ·exact this
 ·rw [ht] at hu
  obtain ⟨x,hx,⟨rfl,rfl⟩ | ⟨_,rfl⟩⟩:=upd_get (K:=K) (f:=f) hu
  ·exact hs x hx s2
  ·exact h.sn i _ hx s2
theorem Sdd.lend {K:RM}(h:Sdd T F K){a b:Th}(hb:0<=b.sp) (hab:a.sp=0↔b.sp=0):∀ l∈(lendL K.leaves a b).1,0<=l.sp/\0<=l.fr/\(l.sp=0->(l.usp=-1\/l.usp=0)/\F l.fr)/\(l.sp≠0->l.usp≠0/\¬ F l.fr):=by
 have hg:∀ l∈goneL K.leaves b.sp b.win true,0<=l.sp/\0<=l.fr/\(l.sp=0->(l.usp=-1\/l.usp=0)/\F l.fr)/\(l.sp≠0->l.usp≠0/\¬ F l.fr):=fun l hl=>h.lf l (mem_gone.1 hl).1
 unfold lendL
 split
 ·exact h.lf
 ·split
  ·exact hg
  ·rename_i l hl
   have hm:=hg l (List.mem_of_find?_eq_some hl)
   have hq:=List.find?_some hl
   simp at hq
   split
   ·exact hg
   ·intro q hq2
    rcases List.mem_append.1 hq2 with hq2 | hq2
    ·exact hg q hq2
    ·rw [List.mem_singleton] at hq2
     rw [hq2]
     refine ⟨hb,hm.2.1,fun e=>⟨.inr (hab.2 e),(hm.2.2.1 (by rw [hq.1];exact hab.2 e)).2⟩,fun e=>⟨fun g=>e (hab.1 g),(hm.2.2.2 (by rw [hq.1];exact fun g=>e (hab.1 g))).2⟩⟩
theorem sd_clo:CloD (Sdd T F) (fun s r=>Z0 T s↔Z0 T r):=by
 refine ⟨fun K t e h=>?_,fun K t h=>?_,fun K t h=>?_,fun K t h=>?_,fun K t r h hd=>?_,fun K s r h hd=>?_,fun K t m h=>?_,fun K t x h=>?_,fun K t n h=>?_,fun K h=>⟨h.ln,h.pl,h.ps,h.sn,h.lf⟩,fun K s t u h hu s2 ho=>?_,fun K i u p h hu hp e hb=>?_⟩
 ·exact h.upd rfl rfl h.lf (by intro u;exact ⟨rfl,rfl⟩) (fun u hu e=>absurd e (show ¬ (1:Int)=2 by decide))
 ·exact h.upd rfl rfl h.lf (by intro u;exact ⟨rfl,rfl⟩) (fun u hu e=>h.sn _ u hu e)
 ·exact h.upd rfl rfl h.lf (by intro u;exact ⟨rfl,rfl⟩) (fun u hu e=>h.sn _ u hu e)
 ·exact h.upd rfl rfl h.lf (by intro u;exact ⟨rfl,rfl⟩) (fun u hu e=>absurd e (show ¬ (3:Int)=2 by decide))
 ·exact h.upd rfl rfl h.lf (by intro u;exact ⟨rfl,rfl⟩) (fun u hu e=>⟨r,rfl,hd⟩)
 ·unfold RM.deliver
  split
  ·rename_i a b ha hb
   exact h.upd rfl rfl (h.lend (h.pl r b hb).1 (by rw [<- h.z ha,<- h.z hb];exact hd)) (by intro u;exact ⟨rfl,rfl⟩) (fun u hu e=>absurd e (show ¬ (1:Int)=2 by decide))
  ·exact h
 ·exact h.upd rfl rfl h.lf (by intro u;exact ⟨rfl,rfl⟩) (fun u hu e=>h.sn _ u hu e)
 ·exact h.upd rfl rfl h.lf (by intro u;exact ⟨rfl,rfl⟩) (fun u hu e=>h.sn _ u hu e)
 ·exact h.upd rfl rfl h.lf (by intro u;exact ⟨rfl,rfl⟩) (fun u hu e=>h.sn _ u hu e)
 ·obtain ⟨r,e,hd⟩:=h.sn s u hu s2
  have:r=t:=by omega
  rw [<- this];exact hd
 ·have:=h.ps p hp
  rw [<- this.2,e]
  exact h.z hu
theorem Sdd.stored {K:RM}(h:Sdd T F K) (pg ce v:Int):Sdd T F (K.stored pg ce v):=by
 unfold RM.stored
 split
 ·exact ⟨h.ln,h.pl,h.ps,h.sn,h.lf⟩
 ·exact h
theorem Sdd.unmap {K:RM}(h:Sdd T F K) (pg:Int) (own:Bool):Sdd T F (K.unmap pg own).2:=by
 unfold RM.unmap
 split
 ·exact h
 ·split
  ·split
   ·exact ⟨h.ln,h.pl,h.ps,h.sn,fun l hl=>h.lf l (mem_gone.1 hl).1⟩
   ·exact h
  ·exact h
theorem Sdd.drop {K:RM}(h:Sdd T F K) (a:Int):Sdd T F (K.drop a).2:=by
 unfold RM.drop
 split
 ·exact h
 ·split
  ·split
   ·exact ⟨h.ln,h.pl,fun p hp=>by obtain ⟨i,hi⟩:=List.getElem?_of_mem hp;obtain ⟨j,hj⟩:=outQ_mem hi;exact h.ps p (List.mem_of_getElem? hj),h.sn,h.lf⟩
   ·exact h
  ·exact h
theorem Sdd.derive {K:RM}(h:Sdd T F K) (a b r:Int):Sdd T F (K.derive a b r).2:=by
 unfold RM.derive
 split
 ·exact h
 ·split
  ·split
   ·rename_i p hp
    split
    ·refine ⟨h.ln,h.pl,fun q hq=>?_,h.sn,h.lf⟩
     rcases putQ_mem hq with rfl | hm
     ·have hm:=List.mem_of_find?_eq_some (show List.find? _ K.passes=some p from hp)
      have hq:=List.find?_some (show List.find? _ K.passes=some p from hp)
      have hq1:p.1=K.home:=by simp at hq;exact hq.1
      have:=h.ps p hm
      rw [hq1] at this
      exact this
     ·exact h.ps q hm
    ·exact h
   ·exact h
  ·exact h
structure Off (T:List (Int×Int)) (F:Int->Prop) (K K1:RM):Prop where
 th:∀ i,Z0 T i->K1.threads[i]? = K.threads[i]?
 ps:∀ n,findQ K1.passes 0 n=findQ K.passes 0 n
 lf:∀ l:Lf,l.sp=0->(l∈K1.leaves↔l∈K.leaves)
 fr:∀ f,F f->∀ c:Nat,c < 4->K1.fr (f.toNat*4+c)=K.fr (f.toNat*4+c)
 cl:K1.clock=K.clock
theorem Off.refl (K:RM):Off T F K K:=⟨fun _ _=>rfl,fun _=>rfl,fun _ _=>Iff.rfl,fun _ _ _ _=>rfl,rfl⟩
theorem Off.upd {K0 K K':RM}(h:Off T F K0 K){r:Nat}{f:Th->Th}(hz:¬ Z0 T r) (ht:K'.threads=K.threads.modify r f) (hp:K'.passes=K.passes) (hl:K'.leaves=K.leaves) (hf:K'.fr=K.fr) (hc:K'.clock=K.clock):Off T F K0 K':=by
 refine ⟨fun i hi=>?_,by rw [hp];exact h.ps,by rw [hl];exact h.lf,by rw [hf];exact h.fr,hc.trans h.cl⟩
 rw [ht,mod_ne f (show r≠i from fun e=>hz (by rw [e];exact hi)),h.th i hi]
theorem und_off {K:RM}(h:Sdd T F K){s n:Int}(s0:0<=s) (s1:s≠0){l:Lf}(hu:Und K.leaves s n l):l∈K.leaves->l.sp=0->False:=by
 induction hu with
 | base l e1 _=>intro hl hz;have:=((h.lf l hl).2.2.1 hz).1;omega
 | step l p hp e1 _ _ ih=>intro hl hz;have h1:=((h.lf l hl).2.2.1 hz).1;have h2:=(h.lf p hp).1;exact ih hp (by omega)
theorem gone_off {K:RM}(h:Sdd T F K){s n:Int}{own:Bool}(s0:0<=s) (s1:s≠0){l:Lf}(hz:l.sp=0):l∈goneL K.leaves s n own↔l∈K.leaves:=by
 rw [mem_gone]
 exact ⟨fun g=>g.1,fun g=>⟨g,fun u=>und_off h s0 s1 u g hz,fun e=>s1 (by rw [<- e.2.1];exact hz)⟩⟩
theorem lend_off {K:RM}(h:Sdd T F K){a b:Th}(s0:0<=b.sp) (s1:b.sp≠0){l:Lf}(hz:l.sp=0):l∈(lendL K.leaves a b).1↔l∈K.leaves:=by
 have hg:=gone_off (n:=b.win) (own:=true) h s0 s1 hz
 unfold lendL
 split
 ·exact Iff.rfl
 ·split
  ·exact hg
  ·split
   ·exact hg
   ·rw [List.mem_append,List.mem_singleton]
    exact ⟨fun e=>e.elim hg.1 (fun e=>absurd (show l.sp=b.sp by rw [e]) (by omega)),fun e=>.inl (hg.2 e)⟩
structure OffS (T:List (Int×Int)) (F:Int->Prop) (K0 K:RM):Prop where
 o:Off T F K0 K
 s:Sdd T F K
section
variable {K0 K:RM}
theorem OffS.over (h:OffS T F K0 K){t:Nat}(hz:¬ Z0 T t) (e:Int):OffS T F K0 (K.over t e):=⟨h.o.upd hz rfl rfl rfl rfl rfl,sd_clo.over _ _ _ h.s⟩
theorem OffS.toFirst (h:OffS T F K0 K){t:Nat}(hz:¬ Z0 T t):OffS T F K0 (K.toFirst t):=⟨h.o.upd hz rfl rfl rfl rfl rfl,sd_clo.toFirst _ _ h.s⟩
theorem OffS.toLast (h:OffS T F K0 K){t:Nat}(hz:¬ Z0 T t):OffS T F K0 (K.toLast t):=⟨h.o.upd hz rfl rfl rfl rfl rfl,sd_clo.toLast _ _ h.s⟩
theorem OffS.recvs (h:OffS T F K0 K){t:Nat}(hz:¬ Z0 T t):OffS T F K0 (K.waits t 3 (-1)):=⟨h.o.upd hz rfl rfl rfl rfl rfl,sd_clo.recvs _ _ h.s⟩
theorem OffS.sends (h:OffS T F K0 K){t r:Nat}(hz:¬ Z0 T t) (hd:Z0 T t↔Z0 T r):OffS T F K0 (K.waits t 2 r):=⟨h.o.upd hz rfl rfl rfl rfl rfl,sd_clo.sends _ _ _ h.s hd⟩
theorem OffS.asks (h:OffS T F K0 K){t:Nat}(hz:¬ Z0 T t) (m:Ms):OffS T F K0 (K.asks t m):=⟨h.o.upd hz rfl rfl rfl rfl rfl,sd_clo.asks _ _ _ h.s⟩
theorem OffS.lendsTo (h:OffS T F K0 K){t:Nat}(hz:¬ Z0 T t) (x:Bool):OffS T F K0 (K.lendsTo t x):=⟨h.o.upd hz rfl rfl rfl rfl rfl,sd_clo.lendsTo _ _ _ h.s⟩
theorem OffS.setLeft (h:OffS T F K0 K){t:Nat}(hz:¬ Z0 T t) (n:Int):OffS T F K0 (K.setLeft t n):=⟨h.o.upd hz rfl rfl rfl rfl rfl,sd_clo.setLeft _ _ _ h.s⟩
theorem OffS.deliver (h:OffS T F K0 K){s r:Nat}(hz:¬ Z0 T r) (hd:Z0 T s↔Z0 T r):OffS T F K0 (K.deliver s r):=by
 refine ⟨?_,sd_clo.deliver _ _ _ h.s hd⟩
 unfold RM.deliver
 split
 ·rename_i a b ha hb
  have hb0:=(h.s.pl r b hb).1
  have hb1:b.sp≠0:=fun e=>hz ((h.s.z hb).2 e)
  refine ⟨fun i hi=>?_,h.o.ps,fun l hl=>(lend_off h.s hb0 hb1 hl).trans (h.o.lf l hl),h.o.fr,h.o.cl⟩
  show (K.threads.modify r _)[i]? = _
  rw [mod_ne _ (show r≠i from fun e=>hz (by rw [e];exact hi)),h.o.th i hi]
 ·exact h.o
theorem OffS.goesOf {n:Nat}(hr:∀ (K:RM) t stands,OffS T F K0 K->¬ Z0 T t->OffS T F K0 (RM.recv n K t stands)) (s:Nat) (stands:Bool) (h:OffS T F K0 K) (hz:¬ Z0 T s):OffS T F K0 (K.goes n s stands):=by
 unfold RM.goes
 split
 ·exact h
 ·split
  ·exact hr _ _ _ h hz
  ·split
   ·exact h.over hz _
   ·exact (h.over hz _).toLast hz
theorem OffS.recv:∀ (n:Nat) (K:RM) (t:Nat) (stands:Bool),OffS T F K0 K->¬ Z0 T t->OffS T F K0 (RM.recv n K t stands):=by
 intro n
 induction n with
 | zero=>intro K t stands h _;exact h
 | succ n ih=>
  intro K t stands h hz
  rcases hx:K.threads[t]? with _ | x
  ·simp only [RM.recv,hx];exact h
  ·rcases senM_best K.threads t x.frm K.threads.length (Nat.le_refl _) with ⟨e,_⟩ | ⟨j,u,e,hj,hu,hc,_⟩
   ·rw [recv_none hx (by omega)]
    split
    ·exact h.recvs hz
    ·split
     ·exact h.over hz _
     ·exact (h.over hz _).toLast hz
   ·rw [recv_some hx e]
    have hd:=sd_clo.sen K j t u h.s hu hc.1 hc.2.1
    refine OffS.goesOf ih _ _ ?_ (fun g=>hz (hd.1 g))
    unfold RM.heard
    split
    ·exact h.deliver hz hd
    ·exact (h.deliver hz hd).toFirst hz
theorem OffS.ipc (h:OffS T F K0 K) (hz:∀ t:Nat,K.cur=t->¬ Z0 T t) (m:Ms):OffS T F K0 (K.ipc m).2:=by
 unfold RM.ipc
 split
 ·exact h
 ·rename_i hc
  have hz2:=hz K.cur.toNat (by omega)
  split
  ·exact h
  ·split
   ·exact OffS.recv 7 _ _ _ (h.asks hz2 m) hz2
   ·split
    ·exact h
    ·rename_i u hu
     split
     ·exact (h.asks hz2 m).over hz2 _
     ·rename_i p hp
      split
      ·exact (h.asks hz2 m).over hz2 _
      ·rename_i hne
       have hm:=List.mem_of_find?_eq_some (show List.find? _ K.passes=some p from hp)
       have hq:=List.find?_some (show List.find? _ K.passes=some p from hp)
       have hq1:p.1=u.sp:=by simp at hq;exact hq.1
       have hd:=sd_clo.pass K _ u p h.s hu hm hq1 (fun e=>hne (.inl e))
       have ha:=(h.asks hz2 m).lendsTo hz2 (bits .and .i64 p.2.2.2 2 != 0)
       unfold RM.sends
       split
       ·exact ha
       ·split
        ·exact OffS.goesOf (OffS.recv 7) _ _ ((ha.deliver (fun g=>hz2 (hd.2 g)) hd).toFirst (fun g=>hz2 (hd.2 g))) hz2
        ·split
         ·exact ha.over hz2 _
         ·exact ha.sends hz2 hd
theorem OffS.yield (h:OffS T F K0 K) (hz:∀ t:Nat,K.cur=t->¬ Z0 T t):OffS T F K0 K.yield.2:=by
 unfold RM.yield
 split
 ·exact h
 ·have hz2:=hz K.cur.toNat (by omega)
  exact (h.setLeft hz2 _).toLast hz2
theorem OffS.spent (h:OffS T F K0 K) (hz:∀ t:Nat,K.cur=t->¬ Z0 T t):OffS T F K0 K.spent:=by
 unfold RM.spent
 split
 ·exact h
 ·split
  ·exact h
  ·have hz2:=hz K.cur.toNat (by omega)
   split
   ·exact (h.setLeft hz2 _).toLast hz2
   ·exact h.setLeft hz2 _
theorem home_off (h:Sdd T F K) (hz:∀ t:Nat,K.cur=t->¬ Z0 T t) (hc:¬ K.cur < 0):0<=K.home/\K.home≠0:=by
 have hz2:=hz K.cur.toNat (by omega)
 have hl:K.cur.toNat < K.threads.length:=by
  rcases curM_inv K.threads K.threads.length (Nat.le_refl _) with e | ⟨j,u,e,hj,_⟩
  ·exact absurd (show K.cur < 0 by unfold RM.cur;omega) hc
  ·unfold RM.cur;omega
 have hu:=List.getElem?_eq_getElem hl
 unfold RM.home
 rw [hu]
 exact ⟨(h.pl _ _ hu).1,fun e=>hz2 ((h.z hu).2 e)⟩
theorem OffS.stored (hF:∀ f,F f->0<=f) (h:OffS T F K0 K) (hz:∀ t:Nat,K.cur=t->¬ Z0 T t) (pg ce v:Int):OffS T F K0 (K.stored pg ce v):=by
 refine ⟨?_,h.s.stored _ _ _⟩
 unfold RM.stored
 split
 ·rename_i h0
  refine ⟨h.o.th,h.o.ps,h.o.lf,fun f hf c hc=>?_,h.o.cl⟩
  show frSet K.fr _ v _=_
  unfold frSet
  rw [if_neg,h.o.fr f hf c hc]
  intro e
  have hcu:¬ K.cur < 0:=fun g=>by simp [RM.touch,g] at h0
  have hh:=home_off h.s hz hcu
  unfold RM.touch at h0 e
  rw [if_neg hcu] at h0 e
  split at h0
  ·rename_i hi
   rw [if_pos hi] at e
   split at h0
   ·rename_i p hp
    rw [hp] at e
    dsimp only at e
    split at h0
    ·simp at h0
    ·rename_i hb
     rw [if_neg hb] at e
     dsimp only at e
     have hm:=List.mem_of_find?_eq_some (show List.find? _ K.leaves=some p from hp)
     have hq:=List.find?_some (show List.find? _ K.leaves=some p from hp)
     simp at hq
     have hl:=h.s.lf p hm
     have h1:=hF f hf
     have hce:0<=ce/\ce<=3:=by have:=hi.2;simp [inI] at this;exact this
     have:p.fr=f:=by omega
     exact (hl.2.2.2 (by rw [hq.1];exact hh.2)).2 (by rw [this];exact hf)
   ·simp at h0
  ·simp at h0
 ·exact h.o
theorem OffS.unmap (h:OffS T F K0 K) (hz:∀ t:Nat,K.cur=t->¬ Z0 T t) (pg:Int) (own:Bool):OffS T F K0 (K.unmap pg own).2:=by
 refine ⟨?_,h.s.unmap _ _⟩
 unfold RM.unmap
 split
 ·exact h.o
 ·rename_i hc
  have hh:=home_off h.s hz hc
  split
  ·split
   ·exact ⟨h.o.th,h.o.ps,fun l hl=>(gone_off h.s hh.1 hh.2 hl).trans (h.o.lf l hl),h.o.fr,h.o.cl⟩
   ·exact h.o
  ·exact h.o
theorem OffS.drop (h:OffS T F K0 K) (hz:∀ t:Nat,K.cur=t->¬ Z0 T t) (a:Int):OffS T F K0 (K.drop a).2:=by
 refine ⟨?_,h.s.drop _⟩
 unfold RM.drop
 split
 ·exact h.o
 ·rename_i hc
  have hh:=home_off h.s hz hc
  split
  ·split
   ·exact ⟨h.o.th,fun n=>by show findQ (outQ _ _ _) _ _=_;rw [outQ_find,if_neg (fun e=>hh.2 e.1)];exact h.o.ps n,h.o.lf,h.o.fr,h.o.cl⟩
   ·exact h.o
  ·exact h.o
theorem OffS.derive (h:OffS T F K0 K) (hz:∀ t:Nat,K.cur=t->¬ Z0 T t) (a b r:Int):OffS T F K0 (K.derive a b r).2:=by
 refine ⟨?_,h.s.derive _ _ _⟩
 unfold RM.derive
 split
 ·exact h.o
 ·rename_i hc
  have hh:=home_off h.s hz hc
  split
  ·split
   ·split
    ·exact ⟨h.o.th,fun n=>by show findQ (putQ _ _ _ _ _) _ _=_;rw [putQ_find,if_neg (fun e=>hh.2 e.1)];exact h.o.ps n,h.o.lf,h.o.fr,h.o.cl⟩
    ·exact h.o
   ·exact h.o
  ·exact h.o
end
end
open Go.RowKit
def vis (u:Th):Th:={ u with ord:=0,turn:=0 }
structure Rl (T:List (Int×Int)) (F:Int->Prop) (K K':RM):Prop where
 th:∀ (i:Nat) u u',Z0 T i->K.threads[i]? = some u->K'.threads[i]? = some u'->vis u=vis u'
 od:∀ (i j:Nat) u v u' v',Z0 T i->Z0 T j->K.threads[i]? = some u->K.threads[j]? = some v->K'.threads[i]? = some u'->K'.threads[j]? = some v'->(u.ord < v.ord↔u'.ord < v'.ord)
 tn:∀ (i j:Nat) u v u' v',Z0 T i->Z0 T j->K.threads[i]? = some u->K.threads[j]? = some v->K'.threads[i]? = some u'->K'.threads[j]? = some v'->u.st=2->v.st=2->(u.turn < v.turn↔u'.turn < v'.turn)
 ps:∀ n,findQ K.passes 0 n=findQ K'.passes 0 n
 lf:∀ l:Lf,l.sp=0->(l∈K.leaves↔l∈K'.leaves)
 fr:∀ f,F f->∀ c:Nat,c < 4->K.fr (f.toNat*4+c)=K'.fr (f.toNat*4+c)
 cl:K.clock=K'.clock
structure Tw (T:List (Int×Int)) (F:Int->Prop) (K K':RM):Prop where
 rl:Rl T F K K'
 s1:Sdd T F K
 s2:Sdd T F K'
 n1:∃ b,K.Num b
 n2:∃ b,K'.Num b
 a1:ApL K.leaves
 a2:ApL K'.leaves
theorem lend_apl {L:List Lf}(ap:ApL L) (a b:Th):ApL (lendL L a b).1:=by
 have G1:=gone_apl ap b.sp b.win true
 unfold lendL
 split
 ·exact ap
 ·split
  ·exact G1
  ·split
   ·exact G1
   ·refine List.pairwise_append.2 ⟨G1,by simp,fun x hx z hz=>?_⟩
    rw [List.mem_singleton] at hz
    rw [hz]
    exact fun e=>(mem_gone.1 hx).2.2 ⟨rfl,e⟩
theorem apl_clo:Clo (fun _ K=>ApL K.leaves):=by
 refine ⟨fun _ _ _ _ h=>h,fun b K t e h=>h,fun b K t h=>h,fun b K t h=>h,fun b K t st o h _=>h,fun b K s r h=>?_,fun b K t m h=>h,fun b K t m h=>h,fun b K t m h=>h⟩
 unfold RM.deliver
 split
 ·exact lend_apl h _ _
 ·exact h
structure One (T:List (Int×Int)) (F:Int->Prop) (K:RM):Prop where
 s:Sdd T F K
 n:∃ b,K.Num b
 a:ApL K.leaves
section
variable {T:List (Int×Int)}{F:Int->Prop}{K K' K1 K1':RM}
theorem Tw.mk' (h:Rl T F K K') (a:One T F K) (b:One T F K'):Tw T F K K':=⟨h,a.s,b.s,a.n,b.n,a.a,b.a⟩
theorem Tw.o1 (h:Tw T F K K'):One T F K:=⟨h.s1,h.n1,h.a1⟩
theorem Tw.o2 (h:Tw T F K K'):One T F K':=⟨h.s2,h.n2,h.a2⟩
theorem vis_eq {u u':Th}(h:vis u=vis u'):u.sp=u'.sp/\u.row=u'.row/\u.st=u'.st/\u.left=u'.left/\u.dst=u'.dst/\u.mw=u'.mw/\u.item=u'.item/\u.rt=u'.rt/\u.frm=u'.frm/\u.win=u'.win/\u.wait=u'.wait/\u.lends=u'.lends/\u.other=u'.other/\u.time=u'.time/\u.code=u'.code/\u.who=u'.who/\u.ws=u'.ws/\u.got=u'.got:=by
 unfold vis at h
 injection h
 refine ⟨?_,?_,?_,?_,?_,?_,?_,?_,?_,?_,?_,?_,?_,?_,?_,?_,?_,?_⟩ <;> assumption
theorem Rl.symm (h:Rl T F K K'):Rl T F K' K:=
 ⟨fun i u u' hz hu hu'=>(h.th i u' u hz hu' hu).symm,fun i j u v u' v' zi zj a b c d=>(h.od i j u' v' u v zi zj c d a b).symm,
 fun i j u v u' v' zi zj a b c d s1 s2=>(h.tn i j u' v' u v zi zj c d a b (by rw [(vis_eq (h.th i u' u zi c a)).2.2.1];exact s1) (by rw [(vis_eq (h.th j v' v zj d b)).2.2.1];exact s2)).symm,
 fun n=>(h.ps n).symm,fun l hl=>(h.lf l hl).symm,fun f hf c hc=>(h.fr f hf c hc).symm,h.cl.symm⟩
theorem Tw.symm (h:Tw T F K K'):Tw T F K' K:=⟨h.rl.symm,h.s2,h.s1,h.n2,h.n1,h.a2,h.a1⟩
theorem Rl.refl (K:RM):Rl T F K K:=by
 refine ⟨fun i u u' _ h1 h2=>by rw [h1] at h2;cases h2;rfl,fun i j u v u' v' _ _ a b c d=>?_,fun i j u v u' v' _ _ a b c d _ _=>?_,fun _=>rfl,fun _ _=>Iff.rfl,fun _ _ _ _=>rfl,rfl⟩
 ·rw [a] at c;rw [b] at d;cases c;cases d;exact Iff.rfl
 ·rw [a] at c;rw [b] at d;cases c;cases d;exact Iff.rfl
theorem Rl.off (h:Rl T F K K') (o:Off T F K K1):Rl T F K1 K':=
 ⟨fun i u u' hz hu hu'=>h.th i u u' hz (by rw [<- o.th i hz];exact hu) hu',fun i j u v u' v' zi zj a b c d=>h.od i j u v u' v' zi zj (by rw [<- o.th i zi];exact a) (by rw [<- o.th j zj];exact b) c d,
 fun i j u v u' v' zi zj a b c d=>h.tn i j u v u' v' zi zj (by rw [<- o.th i zi];exact a) (by rw [<- o.th j zj];exact b) c d,
 fun n=>(o.ps n).trans (h.ps n),fun l hl=>(o.lf l hl).trans (h.lf l hl),fun f hf c hc=>(o.fr f hf c hc).trans (h.fr f hf c hc),o.cl.trans h.cl⟩
theorem Rl.upd2 (h:Rl T F K K'){t:Nat}{f f':Th->Th}(ht:K1.threads=K.threads.modify t f) (ht':K1'.threads=K'.threads.modify t f') (hp:K1.passes=K.passes) (hp':K1'.passes=K'.passes) (hl:∀ l:Lf,l.sp=0->(l∈K1.leaves↔l∈K1'.leaves)) (hf:K1.fr=K.fr) (hf':K1'.fr=K'.fr) (hc:K1.clock=K.clock) (hc':K1'.clock=K'.clock)
  (hv:∀ u u',K.threads[t]? = some u->K'.threads[t]? = some u'->vis u=vis u'->vis (f u)=vis (f' u'))
  (ho:∀ (j:Nat) u v u' v',j≠t->Z0 T j->Z0 T t->K.threads[t]? = some u->K.threads[j]? = some v->K'.threads[t]? = some u'->K'.threads[j]? = some v'->((f u).ord < v.ord↔(f' u').ord < v'.ord)/\(v.ord < (f u).ord↔v'.ord < (f' u').ord))
  (hn:∀ (j:Nat) u v u' v',j≠t->Z0 T j->Z0 T t->K.threads[t]? = some u->K.threads[j]? = some v->K'.threads[t]? = some u'->K'.threads[j]? = some v'->(f u).st=2->v.st=2->((f u).turn < v.turn↔(f' u').turn < v'.turn)/\(v.turn < (f u).turn↔v'.turn < (f' u').turn)):Rl T F K1 K1':=by
 refine ⟨fun i u u' hz hu hu'=>?_,fun i j u v u' v' zi zj a b c d=>?_,fun i j u v u' v' zi zj a b c d s1 s2=>?_,fun n=>by rw [hp,hp'];exact h.ps n,hl,by rw [hf,hf'];exact h.fr,by rw [hc,hc'];exact h.cl⟩
 ·rw [ht] at hu
  rw [ht'] at hu'
  obtain ⟨x,hx,c⟩:=upd_get (K:=K) (f:=f) hu
  obtain ⟨x',hx',c'⟩:=upd_get (K:=K') (f:=f') hu'
  rcases c with ⟨e,rfl⟩ | ⟨e,rfl⟩ <;> rcases c' with ⟨e',rfl⟩ | ⟨e',rfl⟩
  ·subst e;exact hv x x' hx hx' (h.th _ x x' hz hx hx')
  ·exact absurd e e'
  ·exact absurd e' e
  ·exact h.th i _ _ hz hx hx'
 ·rw [ht] at a b
  rw [ht'] at c d
  obtain ⟨x,hx,ca⟩:=upd_get (K:=K) (f:=f) a
  obtain ⟨y,hy,cb⟩:=upd_get (K:=K) (f:=f) b
  obtain ⟨x',hx',cc⟩:=upd_get (K:=K') (f:=f') c
  obtain ⟨y',hy',cd⟩:=upd_get (K:=K') (f:=f') d
  rcases ca with ⟨e,rfl⟩ | ⟨e,rfl⟩ <;> rcases cc with ⟨e',rfl⟩ | ⟨e',rfl⟩
  ·subst e
   rcases cb with ⟨g,rfl⟩ | ⟨g,rfl⟩ <;> rcases cd with ⟨g',rfl⟩ | ⟨g',rfl⟩
   ·subst g
    rw [hx] at hy;rw [hx'] at hy';cases hy;cases hy'
    exact ⟨fun q=>absurd q (Int.lt_irrefl _),fun q=>absurd q (Int.lt_irrefl _)⟩
   ·exact absurd g g'
   ·exact absurd g' g
   ·exact (ho j x _ x' _ g zj zi hx hy hx' hy').1
  ·exact absurd e e'
  ·exact absurd e' e
  ·rcases cb with ⟨g,rfl⟩ | ⟨g,rfl⟩ <;> rcases cd with ⟨g',rfl⟩ | ⟨g',rfl⟩
   ·subst g
    exact (ho i y _ y' _ e zi zj hy hx hy' hx').2
   ·exact absurd g g'
   ·exact absurd g' g
   ·exact h.od i j _ _ _ _ zi zj hx hy hx' hy'
 ·rw [ht] at a b
  rw [ht'] at c d
  obtain ⟨x,hx,ca⟩:=upd_get (K:=K) (f:=f) a
  obtain ⟨y,hy,cb⟩:=upd_get (K:=K) (f:=f) b
  obtain ⟨x',hx',cc⟩:=upd_get (K:=K') (f:=f') c
  obtain ⟨y',hy',cd⟩:=upd_get (K:=K') (f:=f') d
  rcases ca with ⟨e,rfl⟩ | ⟨e,rfl⟩ <;> rcases cc with ⟨e',rfl⟩ | ⟨e',rfl⟩
  ·subst e
   rcases cb with ⟨g,rfl⟩ | ⟨g,rfl⟩ <;> rcases cd with ⟨g',rfl⟩ | ⟨g',rfl⟩
   ·subst g
    rw [hx] at hy;rw [hx'] at hy';cases hy;cases hy'
    exact ⟨fun q=>absurd q (Int.lt_irrefl _),fun q=>absurd q (Int.lt_irrefl _)⟩
   ·exact absurd g g'
   ·exact absurd g' g
   ·exact (hn j x _ x' _ g zj zi hx hy hx' hy' s1 s2).1
  ·exact absurd e e'
  ·exact absurd e' e
  ·rcases cb with ⟨g,rfl⟩ | ⟨g,rfl⟩ <;> rcases cd with ⟨g',rfl⟩ | ⟨g',rfl⟩
   ·subst g
    exact (hn i y _ y' _ e zi zj hy hx hy' hx' s2 s1).2
   ·exact absurd g g'
   ·exact absurd g' g
   ·exact h.tn i j _ _ _ _ zi zj hx hy hx' hy' s1 s2
theorem Rl.plain (h:Rl T F K K'){t:Nat}{f f':Th->Th}(ht:K1.threads=K.threads.modify t f) (ht':K1'.threads=K'.threads.modify t f') (hp:K1.passes=K.passes) (hp':K1'.passes=K'.passes) (hl:∀ l:Lf,l.sp=0->(l∈K1.leaves↔l∈K1'.leaves)) (hf:K1.fr=K.fr) (hf':K1'.fr=K'.fr) (hc:K1.clock=K.clock) (hc':K1'.clock=K'.clock)
  (hv:∀ u u',K.threads[t]? = some u->K'.threads[t]? = some u'->vis u=vis u'->vis (f u)=vis (f' u'))
  (ho:∀ u,(f u).ord=u.ord/\(f' u).ord=u.ord) (hn:∀ u,(f u).st=2->u.st=2/\(f u).turn=u.turn/\∀ u',(f' u').turn=u'.turn):Rl T F K1 K1':=
 h.upd2 ht ht' hp hp' hl hf hf' hc hc' hv
  (fun j u v u' v' _ zj zt a b c d=>by rw [(ho u).1,(ho u').2];exact ⟨h.od t j u v u' v' zt zj a b c d,h.od j t v u v' u' zj zt b a d c⟩)
  (fun j u v u' v' _ zj zt a b c d s1 s2=>by
   obtain ⟨q1,q2,q3⟩:=hn u s1
   rw [q2,q3]
   exact ⟨h.tn t j u v u' v' zt zj a b c d q1 s2,h.tn j t v u v' u' zj zt b a d c s2 q1⟩)
theorem Tw.over (h:Tw T F K K') (t:Nat) (e:Int):Tw T F (K.over t e) (K'.over t e):=by
 obtain ⟨b,hb⟩:=h.n1
 obtain ⟨b',hb'⟩:=h.n2
 refine ⟨h.rl.plain rfl rfl rfl rfl h.rl.lf rfl rfl rfl rfl (fun u u' _ _ e=>?_) (fun u=>⟨rfl,rfl⟩) (fun u s=>absurd s (show ¬ (1:Int)=2 by decide)),sd_clo.over _ _ _ h.s1,sd_clo.over _ _ _ h.s2,⟨b,num_clo.over _ _ _ _ hb⟩,⟨b',num_clo.over _ _ _ _ hb'⟩,h.a1,h.a2⟩
 obtain ⟨q1,q2,q3,q4,q5,q6,q7,q8,q9,q10,q11,q12,q13,q14,q15,q16,q17,q18⟩:=vis_eq e
 simp only [vis,q1,q2,q4,q5,q6,q7,q8,q9,q10,q11,q12,q13]
theorem Tw.toFirst (h:Tw T F K K') (t:Nat):Tw T F (K.toFirst t) (K'.toFirst t):=by
 obtain ⟨b,hb⟩:=h.n1
 obtain ⟨b',hb'⟩:=h.n2
 refine ⟨h.rl.upd2 (f:=fun u=>{ u with ord:=K.first }) (f':=fun u=>{ u with ord:=K'.first }) rfl rfl rfl rfl h.rl.lf rfl rfl rfl rfl (fun u u' _ _ e=>e) (fun j u v u' v' _ zj zt a b c d=>?_) (fun j u v u' v' _ zj zt a b c d s1 s2=>⟨h.rl.tn t j u v u' v' zt zj a b c d s1 s2,h.rl.tn j t v u v' u' zj zt b a d c s2 s1⟩),sd_clo.toFirst _ _ h.s1,sd_clo.toFirst _ _ h.s2,⟨_,num_clo.toFirst _ _ _ hb⟩,⟨_,num_clo.toFirst _ _ _ hb'⟩,h.a1,h.a2⟩
 have g1:=hb.o0 j v b
 have g2:=hb'.o0 j v' d
 dsimp only
 omega
theorem Tw.toLast (h:Tw T F K K') (t:Nat):Tw T F (K.toLast t) (K'.toLast t):=by
 obtain ⟨b,hb⟩:=h.n1
 obtain ⟨b',hb'⟩:=h.n2
 refine ⟨h.rl.upd2 (f:=fun u=>{ u with ord:=K.last }) (f':=fun u=>{ u with ord:=K'.last }) rfl rfl rfl rfl h.rl.lf rfl rfl rfl rfl (fun u u' _ _ e=>e) (fun j u v u' v' _ zj zt a b c d=>?_) (fun j u v u' v' _ zj zt a b c d s1 s2=>⟨h.rl.tn t j u v u' v' zt zj a b c d s1 s2,h.rl.tn j t v u v' u' zj zt b a d c s2 s1⟩),sd_clo.toLast _ _ h.s1,sd_clo.toLast _ _ h.s2,⟨_,num_clo.toLast _ _ _ hb⟩,⟨_,num_clo.toLast _ _ _ hb'⟩,h.a1,h.a2⟩
 have g1:=hb.o0 j v b
 have g2:=hb'.o0 j v' d
 dsimp only
 omega
theorem Tw.waits (h:Tw T F K K') (t:Nat) (st o:Int) (hst:st=2\/st=3) (k1:Sdd T F (K.waits t st o)) (k2:Sdd T F (K'.waits t st o)):Tw T F (K.waits t st o) (K'.waits t st o):=by
 obtain ⟨b,hb⟩:=h.n1
 obtain ⟨b',hb'⟩:=h.n2
 refine ⟨h.rl.upd2 (f:=fun u=>{ u with st:=st,other:=o,turn:=K.last,time:=tim K.clock u.wait }) (f':=fun u=>{ u with st:=st,other:=o,turn:=K'.last,time:=tim K'.clock u.wait }) rfl rfl rfl rfl h.rl.lf rfl rfl rfl rfl (fun u u' _ _ e=>?_) (fun j u v u' v' _ zj zt a b c d=>⟨h.rl.od t j u v u' v' zt zj a b c d,h.rl.od j t v u v' u' zj zt b a d c⟩) (fun j u v u' v' _ zj zt a b c d s1 s2=>?_),k1,k2,⟨_,num_clo.waits _ _ _ _ _ hb hst⟩,⟨_,num_clo.waits _ _ _ _ _ hb' hst⟩,h.a1,h.a2⟩
 ·obtain ⟨q1,q2,q3,q4,q5,q6,q7,q8,q9,q10,q11,q12,q13,q14,q15,q16,q17,q18⟩:=vis_eq e
  simp only [vis,q1,q2,q4,q5,q6,q7,q8,q9,q10,q11,q12,q15,q16,q17,q18,h.rl.cl]
 ·have g1:=hb.t0 j v b (by omega)
  have e:=(vis_eq (h.rl.th j v v' zj b d)).2.2.1
  have g2:=hb'.t0 j v' d (by omega)
  dsimp only
  omega
theorem Tw.recvs (h:Tw T F K K') (t:Nat):Tw T F (K.waits t 3 (-1)) (K'.waits t 3 (-1)):=h.waits t 3 _ (.inr rfl) (sd_clo.recvs _ _ h.s1) (sd_clo.recvs _ _ h.s2)
theorem Tw.sendsW (h:Tw T F K K') (t r:Nat) (hd:Z0 T t↔Z0 T r):Tw T F (K.waits t 2 r) (K'.waits t 2 r):=h.waits t 2 _ (.inl rfl) (sd_clo.sends _ _ _ h.s1 hd) (sd_clo.sends _ _ _ h.s2 hd)
theorem Tw.asks (h:Tw T F K K') (t:Nat) (m:Ms):Tw T F (K.asks t m) (K'.asks t m):=by
 obtain ⟨b,hb⟩:=h.n1
 obtain ⟨b',hb'⟩:=h.n2
 refine ⟨h.rl.plain rfl rfl rfl rfl h.rl.lf rfl rfl rfl rfl (fun u u' _ _ e=>?_) (fun u=>⟨rfl,rfl⟩) (fun u s=>⟨s,rfl,fun _=>rfl⟩),sd_clo.asks _ _ _ h.s1,sd_clo.asks _ _ _ h.s2,⟨b,num_clo.asks _ _ _ _ hb⟩,⟨b',num_clo.asks _ _ _ _ hb'⟩,h.a1,h.a2⟩
 obtain ⟨q1,q2,q3,q4,q5,q6,q7,q8,q9,q10,q11,q12,q13,q14,q15,q16,q17,q18⟩:=vis_eq e
 simp only [vis,q1,q2,q3,q4,q12,q13,q14,q15,q16,q17,q18]
theorem Tw.lendsTo (h:Tw T F K K') (t:Nat) (x:Bool):Tw T F (K.lendsTo t x) (K'.lendsTo t x):=by
 obtain ⟨b,hb⟩:=h.n1
 obtain ⟨b',hb'⟩:=h.n2
 refine ⟨h.rl.plain rfl rfl rfl rfl h.rl.lf rfl rfl rfl rfl (fun u u' _ _ e=>?_) (fun u=>⟨rfl,rfl⟩) (fun u s=>⟨s,rfl,fun _=>rfl⟩),sd_clo.lendsTo _ _ _ h.s1,sd_clo.lendsTo _ _ _ h.s2,⟨b,num_clo.lendsTo _ _ _ _ hb⟩,⟨b',num_clo.lendsTo _ _ _ _ hb'⟩,h.a1,h.a2⟩
 obtain ⟨q1,q2,q3,q4,q5,q6,q7,q8,q9,q10,q11,q12,q13,q14,q15,q16,q17,q18⟩:=vis_eq e
 simp only [vis,q1,q2,q3,q4,q5,q6,q7,q8,q9,q10,q11,q13,q14,q15,q16,q17,q18]
theorem Tw.setLeft (h:Tw T F K K') (t:Nat) (n:Int):Tw T F (K.setLeft t n) (K'.setLeft t n):=by
 obtain ⟨b,hb⟩:=h.n1
 obtain ⟨b',hb'⟩:=h.n2
 refine ⟨h.rl.plain rfl rfl rfl rfl h.rl.lf rfl rfl rfl rfl (fun u u' _ _ e=>?_) (fun u=>⟨rfl,rfl⟩) (fun u s=>⟨s,rfl,fun _=>rfl⟩),sd_clo.setLeft _ _ _ h.s1,sd_clo.setLeft _ _ _ h.s2,⟨b,num_clo.setLeft _ _ _ _ hb⟩,⟨b',num_clo.setLeft _ _ _ _ hb'⟩,h.a1,h.a2⟩
 obtain ⟨q1,q2,q3,q4,q5,q6,q7,q8,q9,q10,q11,q12,q13,q14,q15,q16,q17,q18⟩:=vis_eq e
 simp only [vis,q1,q2,q3,q5,q6,q7,q8,q9,q10,q11,q12,q13,q14,q15,q16,q17,q18]
theorem und_two {L L':List Lf}(hs:∀ l∈L,0<=l.sp/\(l.sp=0->l.usp=-1\/l.usp=0)) (hi:∀ l:Lf,l.sp=0->l∈L->l∈L'){n:Int}{l:Lf}(hu:Und L 0 n l):l∈L->l.sp=0->Und L' 0 n l:=by
 induction hu with
 | base l e1 e2=>exact fun _ _=>.base l e1 e2
 | step l p hp e1 e2 _ ih=>
  intro hl hz
  have h1:=(hs l hl).2 hz
  have h2:=(hs p hp).1
  have h3:p.sp=0:=by omega
  exact .step l p (hi p h3 hp) e1 e2 (ih hp h3)
theorem Sdd.lf0 (h:Sdd T F K):∀ l∈K.leaves,0<=l.sp/\(l.sp=0->l.usp=-1\/l.usp=0):=fun l hl=>⟨(h.lf l hl).1,fun e=>((h.lf l hl).2.2.1 e).1⟩
theorem gone_two {L L':List Lf}(hs:∀ l∈L,0<=l.sp/\(l.sp=0->l.usp=-1\/l.usp=0)) (hs':∀ l∈L',0<=l.sp/\(l.sp=0->l.usp=-1\/l.usp=0)) (hi:∀ l:Lf,l.sp=0->(l∈L↔l∈L')) (n:Int) (own:Bool) (l:Lf) (hz:l.sp=0):l∈goneL L 0 n own↔l∈goneL L' 0 n own:=by
 rw [mem_gone,mem_gone]
 constructor
 ·rintro ⟨h1,h2,h3⟩
  exact ⟨(hi l hz).1 h1,fun u=>h2 (und_two hs' (fun l z g=>(hi l z).2 g) u ((hi l hz).1 h1) hz),h3⟩
 ·rintro ⟨h1,h2,h3⟩
  exact ⟨(hi l hz).2 h1,fun u=>h2 (und_two hs (fun l z g=>(hi l z).1 g) u ((hi l hz).2 h1) hz),h3⟩
theorem findLf_two {L L':List Lf}(_ap:ApL L) (ap':ApL L') (hi:∀ l:Lf,l.sp=0->(l∈L↔l∈L')) (n:Int):findLf L 0 n=findLf L' 0 n:=by
 rcases h:findLf L 0 n with _ | l
 ·rcases h':findLf L' 0 n with _ | l'
  ·rfl
  ·have hm:=List.mem_of_find?_eq_some (show List.find? _ L'=some l' from h')
   have hq:=List.find?_some (show List.find? _ L'=some l' from h')
   have hq':=hq
   simp at hq'
   have:=List.find?_eq_none.1 (show List.find? _ L=none from h) l' ((hi l' hq'.1).2 hm)
   exact absurd hq this
 ·have hm:=List.mem_of_find?_eq_some (show List.find? _ L=some l from h)
  have hq:=List.find?_some (show List.find? _ L=some l from h)
  have hq2:=hq
  simp at hq2
  rcases h':findLf L' 0 n with _ | l'
  ·exact absurd hq (List.find?_eq_none.1 (show List.find? _ L'=none from h') l ((hi l hq2.1).1 hm))
  ·have hm':=List.mem_of_find?_eq_some (show List.find? _ L'=some l' from h')
   have hq':=List.find?_some (show List.find? _ L'=some l' from h')
   simp at hq'
   rw [ap'.eq ((hi l hq2.1).1 hm) hm' (by rw [hq2.1,hq'.1]) (by rw [hq2.2,hq'.2])]
theorem lend_two (h:Tw T F K K'){a a' b b':Th}(va:vis a=vis a') (vb:vis b=vis b') (za:a.sp=0) (zb:b.sp=0):(lendL K.leaves a b).2=(lendL K'.leaves a' b').2/\∀ l:Lf,l.sp=0->(l∈(lendL K.leaves a b).1↔l∈(lendL K'.leaves a' b').1):=by
 obtain ⟨q1,q2,q3,q4,q5,q6,q7,q8,q9,q10,q11,q12,q13,q14,q15,q16,q17,q18⟩:=vis_eq va
 obtain ⟨r1,r2,r3,r4,r5,r6,r7,r8,r9,r10,r11,r12,r13,r14,r15,r16,r17,r18⟩:=vis_eq vb
 unfold lendL
 rw [<- q7,<- r10,<- q12,<- q1,<- r1,<- q8,za,zb]
 have hg:=gone_two h.s1.lf0 h.s2.lf0 h.rl.lf b.win true
 have hf:=findLf_two (gone_apl h.a1 0 b.win true) (gone_apl h.a2 0 b.win true) hg a.item
 rw [<- hf]
 split
 ·exact ⟨rfl,h.rl.lf⟩
 ·split
  ·exact ⟨rfl,hg⟩
  ·split
   ·exact ⟨rfl,hg⟩
   ·exact ⟨rfl,fun l hl=>by rw [List.mem_append,List.mem_append,hg l hl]⟩
theorem Tw.deliver (h:Tw T F K K') (s r:Nat) (zs:Z0 T s) (zr:Z0 T r):Tw T F (K.deliver s r) (K'.deliver s r):=by
 obtain ⟨b,hb⟩:=h.n1
 obtain ⟨b',hb'⟩:=h.n2
 refine ⟨?_,sd_clo.deliver _ _ _ h.s1 ⟨fun _=>zr,fun _=>zs⟩,sd_clo.deliver _ _ _ h.s2 ⟨fun _=>zr,fun _=>zs⟩,⟨_,num_clo.deliver _ _ _ _ hb⟩,⟨_,num_clo.deliver _ _ _ _ hb'⟩,apl_clo.deliver 0 _ _ _ h.a1,apl_clo.deliver 0 _ _ _ h.a2⟩
 rcases hs:K.threads[s]? with _ | a
 ·have hs':K'.threads[s]? = none:=by
   rw [List.getElem?_eq_none_iff] at hs ⊢
   rw [h.s2.ln,<- h.s1.ln];exact hs
  unfold RM.deliver
  rw [hs,hs']
  exact h.rl
 ·obtain ⟨a',hs'⟩:=h.s1.at h.s2 hs
  rcases hr:K.threads[r]? with _ | x
  ·have hr':K'.threads[r]? = none:=by
    rw [List.getElem?_eq_none_iff] at hr ⊢
    rw [h.s2.ln,<- h.s1.ln];exact hr
   unfold RM.deliver
   rw [hs,hs',hr,hr']
   exact h.rl
  ·obtain ⟨x',hr'⟩:=h.s1.at h.s2 hr
   have va:=h.rl.th s a a' zs hs hs'
   have vx:=h.rl.th r x x' zr hr hr'
   obtain ⟨l1,l2⟩:=lend_two h va vx ((h.s1.z hs).1 zs) ((h.s1.z hr).1 zr)
   have hm:=(vis_eq va).2.2.2.2.2.1
   unfold RM.deliver
   rw [hs,hs',hr,hr']
   refine h.rl.plain (f:=fun u=>{ u with st:=1,time:=-1,code:=0,who:=s,ws:=a.mw,got:=(lendL K.leaves a x).2 }) (f':=fun u=>{ u with st:=1,time:=-1,code:=0,who:=s,ws:=a'.mw,got:=(lendL K'.leaves a' x').2 }) rfl rfl rfl rfl l2 rfl rfl rfl rfl (fun u u' _ _ e=>?_) (fun u=>⟨rfl,rfl⟩) (fun u s=>absurd s (show ¬ (1:Int)=2 by decide))
   obtain ⟨q1,q2,q3,q4,q5,q6,q7,q8,q9,q10,q11,q12,q13,q14,q15,q16,q17,q18⟩:=vis_eq e
   simp only [vis,q1,q2,q4,q5,q6,q7,q8,q9,q10,q11,q12,q13,hm,l1]
end
open Go.RowKit
section
variable {T:List (Int×Int)}{F:Int->Prop}{K K' K1 K1':RM}
theorem Tw.none (h:Tw T F K K'){t:Nat}(hs:K.threads[t]? = none):K'.threads[t]? = none:=by
 rw [List.getElem?_eq_none_iff] at hs ⊢
 rw [h.s2.ln,<- h.s1.ln];exact hs
theorem sen_two (h:Tw T F K K'){t:Nat}(zt:Z0 T t) (f:Int):senM K.threads t f K.threads.length=senM K'.threads t f K'.threads.length:=by
 rcases senM_best K.threads t f _ (Nat.le_refl _) with ⟨e,hn⟩ | ⟨j,u,e,hj,hu,hc,hb⟩
 ·rcases senM_best K'.threads t f _ (Nat.le_refl _) with ⟨e',_⟩ | ⟨j',u',e',hj',hu',hc',_⟩
  ·rw [e,e']
  ·exfalso
   have zj:=(sd_clo.sen K' j' t u' h.s2 hu' hc'.1 hc'.2.1).2 zt
   obtain ⟨u,hu⟩:=h.s2.at h.s1 hu'
   have v:=vis_eq (h.rl.th j' u u' zj hu hu')
   refine hn j' u (by rw [h.s1.ln,<- h.s2.ln];exact hj') hu ⟨by rw [v.2.2.1];exact hc'.1,?_,hc'.2.2⟩
   rw [v.2.2.2.2.2.2.2.2.2.2.2.2.1];exact hc'.2.1
 ·have zj:=(sd_clo.sen K j t u h.s1 hu hc.1 hc.2.1).2 zt
  obtain ⟨u',hu'⟩:=h.s1.at h.s2 hu
  have v:=vis_eq (h.rl.th j u u' zj hu hu')
  have c2:u'.st=2/\u'.other=t/\(f=-1\/f=j):=⟨by rw [<- v.2.2.1];exact hc.1,by rw [<- v.2.2.2.2.2.2.2.2.2.2.2.2.1];exact hc.2.1,hc.2.2⟩
  rcases senM_best K'.threads t f _ (Nat.le_refl _) with ⟨e',hn'⟩ | ⟨j',x',e',hj',hx',hc',hb'⟩
  ·exact absurd c2 (hn' j u' (by rw [h.s2.ln,<- h.s1.ln];exact hj) hu')
  ·have zj':=(sd_clo.sen K' j' t x' h.s2 hx' hc'.1 hc'.2.1).2 zt
   obtain ⟨x,hx⟩:=h.s2.at h.s1 hx'
   have v':=vis_eq (h.rl.th j' x x' zj' hx hx')
   have c3:x.st=2/\x.other=t/\(f=-1\/f=j'):=⟨by rw [v'.2.2.1];exact hc'.1,by rw [v'.2.2.2.2.2.2.2.2.2.2.2.2.1];exact hc'.2.1,hc'.2.2⟩
   have b1:=hb j' x (by rw [h.s1.ln,<- h.s2.ln];exact hj') hx c3
   have b2:=hb' j u' (by rw [h.s2.ln,<- h.s1.ln];exact hj) hu' c2
   have t1:=h.rl.tn j' j x u x' u' zj' zj hx hu hx' hu' c3.1 hc.1
   obtain ⟨q,hq⟩:=h.n2
   have:u'.turn=x'.turn:=by omega
   have ej:=hq.t1 j j' u' x' hu' hx' (by omega) (by omega) this
   rw [e,e',ej]
theorem Tw.goesOf {n:Nat}(hr:∀ (K K':RM) t stands,Tw T F K K'->Z0 T t->Tw T F (RM.recv n K t stands) (RM.recv n K' t stands)) (s:Nat) (stands:Bool) (h:Tw T F K K') (hz:Z0 T s):Tw T F (K.goes n s stands) (K'.goes n s stands):=by
 unfold RM.goes
 rcases hx:K.threads[s]? with _ | x
 ·rw [h.none hx];exact h
 ·obtain ⟨x',hx'⟩:=h.s1.at h.s2 hx
  have v:=(vis_eq (h.rl.th s x x' hz hx hx')).2.2.2.2.2.2.2.2.1
  rw [hx']
  dsimp only
  rw [<- v]
  split
  ·exact hr _ _ _ _ h hz
  ·split
   ·exact h.over _ _
   ·exact (h.over _ _).toLast _
theorem Tw.recv:∀ (n:Nat) (K K':RM) (t:Nat) (stands:Bool),Tw T F K K'->Z0 T t->Tw T F (RM.recv n K t stands) (RM.recv n K' t stands):=by
 intro n
 induction n with
 | zero=>intro K K' t stands h _;exact h
 | succ n ih=>
  intro K K' t stands h hz
  rcases hx:K.threads[t]? with _ | x
  ·simp only [RM.recv,hx,h.none hx];exact h
  ·obtain ⟨x',hx'⟩:=h.s1.at h.s2 hx
   have vv:=vis_eq (h.rl.th t x x' hz hx hx')
   have v9:=vv.2.2.2.2.2.2.2.2.1
   have v11:=vv.2.2.2.2.2.2.2.2.2.2.1
   have hs:=sen_two h hz x.frm
   rcases senM_best K.threads t x.frm K.threads.length (Nat.le_refl _) with ⟨e,_⟩ | ⟨j,u,e,hj,hu,hc,_⟩
   ·rw [recv_none hx (by omega),recv_none hx' (by rw [<- v9,<- hs];omega),<- v11]
    split
    ·exact h.recvs _
    ·split
     ·exact h.over _ _
     ·exact (h.over _ _).toLast _
   ·rw [recv_some hx e,recv_some (s:=j) hx' (by rw [<- v9,<- hs];exact e)]
    have hd:=(sd_clo.sen K j t u h.s1 hu hc.1 hc.2.1).2 hz
    refine Tw.goesOf ih _ _ ?_ hd
    unfold RM.heard
    split
    ·exact h.deliver _ _ hd hz
    ·exact (h.deliver _ _ hd hz).toFirst _
theorem home_two (h:Sdd T F K){t:Nat}(hc:K.cur=t) (hz:Z0 T t):K.home=0:=by
 obtain ⟨j,u,e,hu,_⟩:∃ (j:Nat) (u:Th),K.cur=j/\K.threads[j]? = some u/\u.st=1:=by
  rcases curM_inv K.threads K.threads.length (Nat.le_refl _) with e | ⟨j,u,e,_,hu,hs⟩
  ·exfalso;have:K.cur=-1:=e;omega
  ·exact ⟨j,u,e,hu,hs⟩
 have:j=t:=by omega
 subst this
 unfold RM.home
 rw [hc,Int.toNat_natCast,hu]
 exact (h.z hu).1 hz
theorem Tw.ipc (h:Tw T F K K'){t:Nat}(hc:K.cur=t) (hc':K'.cur=t) (hz:Z0 T t) (m:Ms):Tw T F (K.ipc m).2 (K'.ipc m).2:=by
 unfold RM.ipc
 have ht:¬ ((t:Int) < 0):=by omega
 rw [hc,hc',h.s1.ln,h.s2.ln,Int.toNat_natCast]
 simp only [if_neg ht]
 split
 ·exact h
 ·split
  ·exact Tw.recv 7 _ _ _ _ (h.asks _ m) hz
  ·rcases hu:K.threads[t]? with _ | u
   ·rw [h.none hu];exact h
   ·obtain ⟨u',hu'⟩:=h.s1.at h.s2 hu
    have us:=(h.s1.z hu).1 hz
    have us':=(h.s2.z hu').1 hz
    rw [hu']
    dsimp only
    rw [us,us',<- h.rl.ps]
    split
    ·exact (h.asks _ m).over _ _
    ·rename_i p hp
     split
     ·exact (h.asks _ m).over _ _
     ·rename_i hne
      have hm:=List.mem_of_find?_eq_some (show List.find? _ K.passes=some p from hp)
      have hq:=List.find?_some (show List.find? _ K.passes=some p from hp)
      have hq1:p.1=u.sp:=by simp at hq;rw [hq.1,us]
      have hd:=(sd_clo.pass K _ u p h.s1 hu hm hq1 (fun e=>hne (.inl e))).1 hz
      have ha:=(h.asks t m).lendsTo t (bits .and .i64 p.2.2.2 2 != 0)
      show Tw T F (RM.sends _ _ _ _) (RM.sends _ _ _ _)
      unfold RM.sends
      rcases hx:(((K.asks t m).lendsTo t (bits .and .i64 p.2.2.2 2 != 0)).threads)[p.2.2.1.toNat]? with _ | x
      ·rw [ha.none hx];exact ha
      ·obtain ⟨x',hx'⟩:=ha.s1.at ha.s2 hx
       have vv:=vis_eq (ha.rl.th _ x x' hd hx hx')
       rw [hx']
       dsimp only
       rw [<- vv.2.2.1,<- vv.2.2.2.2.2.2.2.2.1]
       split
       ·exact Tw.goesOf (Tw.recv 7) _ _ ((ha.deliver _ _ hz hd).toFirst _) hz
       ·split
        ·exact ha.over _ _
        ·exact ha.sendsW _ _ ⟨fun _=>hd,fun _=>hz⟩
theorem Tw.yield (h:Tw T F K K'){t:Nat}(hc:K.cur=t) (hc':K'.cur=t):Tw T F K.yield.2 K'.yield.2:=by
 unfold RM.yield
 have ht:¬ ((t:Int) < 0):=by omega
 rw [hc,hc']
 simp only [if_neg ht]
 exact (h.setLeft _ _).toLast _
theorem Tw.off (h:Tw T F K K') (o:Off T F K K1) (a:One T F K1):Tw T F K1 K':=Tw.mk' (h.rl.off o) a h.o2
theorem Tw.off2 (h:Tw T F K K') (o:Off T F K K1) (a:One T F K1) (o':Off T F K' K1') (a':One T F K1'):Tw T F K1 K1':=((h.off o a).symm.off o' a').symm
theorem Tw.ticked (h:Tw T F K K'):Tw T F K.ticked K'.ticked:=by
 obtain ⟨b,hb⟩:=h.n1
 obtain ⟨b',hb'⟩:=h.n2
 exact ⟨⟨h.rl.th,h.rl.od,h.rl.tn,h.rl.ps,h.rl.lf,h.rl.fr,by show K.clock+1=K'.clock+1;rw [h.rl.cl]⟩,sd_clo.ticked _ h.s1,sd_clo.ticked _ h.s2,⟨b,hb.same rfl rfl rfl⟩,⟨b',hb'.same rfl rfl rfl⟩,h.a1,h.a2⟩
theorem One.over (h:One T F K) (t:Nat) (e:Int):One T F (K.over t e):=by
 obtain ⟨b,hb⟩:=h.n
 exact ⟨sd_clo.over _ _ _ h.s,⟨_,num_clo.over _ _ _ _ hb⟩,h.a⟩
theorem One.toLast (h:One T F K) (t:Nat):One T F (K.toLast t):=by
 obtain ⟨b,hb⟩:=h.n
 exact ⟨sd_clo.toLast _ _ h.s,⟨_,num_clo.toLast _ _ _ hb⟩,h.a⟩
theorem One.spent (h:One T F K):One T F K.spent:=by
 obtain ⟨b,hb⟩:=h.n
 exact ⟨sd_clo.spent h.s,⟨_,num_clo.spent hb⟩,apl_clo.spent (b:=0) h.a⟩
theorem Tw.tickTo (h:Tw T F K K'):∀ i,Tw T F (K.tickTo i) (K'.tickTo i)
 | 0=>h
 | i+1=>by
  have ih:=Tw.tickTo h i
  simp only [RM.tickTo]
  rcases hx:(K.tickTo i).threads[i]? with _ | x
  ·rw [ih.none hx];exact ih
  ·obtain ⟨x',hx'⟩:=ih.s1.at ih.s2 hx
   rw [hx']
   dsimp only
   by_cases hz:Z0 T i
   ·have v:=(vis_eq (ih.rl.th i x x' hz hx hx')).2.2.2.2.2.2.2.2.2.2.2.2.2.1
    rw [<- v,<- ih.rl.cl]
    split
    ·exact (ih.over _ _).toLast _
    ·exact ih
   ·have step:∀ {G:RM},One T F G->Off T F G ((G.over i 6).toLast i)/\One T F ((G.over i 6).toLast i):=fun {G} o=>⟨(((⟨Off.refl G,o.s⟩:OffS T F G G).over hz 6).toLast hz).o,(o.over i 6).toLast i⟩
    split
    ·split
     ·exact ih.off2 (step ih.o1).1 (step ih.o1).2 (step ih.o2).1 (step ih.o2).2
     ·exact ih.off (step ih.o1).1 (step ih.o1).2
    ·split
     ·exact (ih.symm.off (step ih.o2).1 (step ih.o2).2).symm
     ·exact ih
theorem Tw.tick_of (h:Tw T F K.ticked.spent K'.ticked.spent) (hl:K.threads.length=K'.threads.length):Tw T F K.tick K'.tick:=by
 unfold RM.tick
 rw [<- hl]
 exact h.tickTo _
theorem Tw.len (h:Tw T F K K'):K.threads.length=K'.threads.length:=by rw [h.s1.ln,h.s2.ln]
theorem Tw.tick (h:Tw T F K K'){t:Nat}(hc:K.cur=t) (hc':K'.cur=t) (hz:Z0 T t):Tw T F K.tick K'.tick:=by
 refine Tw.tick_of ?_ h.len
 have ht:=h.ticked
 have e1:K.ticked.cur=t:=hc
 have e2:K'.ticked.cur=t:=hc'
 unfold RM.spent
 rw [e1,e2,Int.toNat_natCast]
 rcases hu:K.ticked.threads[t]? with _ | u
 ·rw [ht.none hu];exact ht
 ·obtain ⟨u',hu'⟩:=ht.s1.at ht.s2 hu
  have v:=(vis_eq (ht.rl.th t u u' hz hu hu')).2.2.2.1
  rw [hu']
  dsimp only
  have h9:¬ ((t:Int) < 0):=by omega
  simp only [if_neg h9]
  rw [<- v]
  split
  ·exact (ht.setLeft _ _).toLast _
  ·exact ht.setLeft _ _
theorem Tw.tick_off (h:Tw T F K K') (hz:∀ t:Nat,K.cur=t->¬ Z0 T t) (hz':∀ t:Nat,K'.cur=t->¬ Z0 T t):Tw T F K.tick K'.tick:=by
 refine Tw.tick_of ?_ h.len
 have ht:=h.ticked
 exact ht.off2 (OffS.spent ⟨Off.refl _,ht.s1⟩ hz).o ht.o1.spent (OffS.spent ⟨Off.refl _,ht.s2⟩ hz').o ht.o2.spent
theorem touch_two (h:Tw T F K K'){t:Nat}(hc:K.cur=t) (hc':K'.cur=t) (hz:Z0 T t) (pg ce rt:Int):K.touch pg ce rt=K'.touch pg ce rt:=by
 unfold RM.touch
 rw [hc,hc',home_two h.s1 hc hz,home_two h.s2 hc' hz,findLf_two h.a1 h.a2 h.rl.lf pg]
theorem touch_in (h:Sdd T F K){t:Nat}(hc:K.cur=t) (hz:Z0 T t){pg ce rt:Int}(h0:(K.touch pg ce rt).2=0):F (K.touch pg ce rt).1/\0<=ce/\ce<=3:=by
 unfold RM.touch at h0 ⊢
 rw [hc,home_two h hc hz,if_neg (by omega)] at h0 ⊢
 split at h0
 ·rename_i hi
  rw [if_pos hi]
  have hce:0<=ce/\ce<=3:=by have:=hi.2;simp [inI] at this;exact this
  refine ⟨?_,hce⟩
  split at h0
  ·rename_i p hp
   split at h0
   ·simp at h0
   ·rename_i hb
    rw [if_neg hb]
    have hm:=List.mem_of_find?_eq_some (show List.find? _ K.leaves=some p from hp)
    have hq:=List.find?_some (show List.find? _ K.leaves=some p from hp)
    simp at hq
    exact ((h.lf p hm).2.2.1 hq.1).2
  ·simp at h0
 ·simp at h0
theorem load_two (h:Tw T F K K'){t:Nat}(hc:K.cur=t) (hc':K'.cur=t) (hz:Z0 T t) (pg ce:Int):K.load pg ce=K'.load pg ce:=by
 unfold RM.load
 rw [<- touch_two h hc hc' hz]
 split
 ·rename_i h0
  obtain ⟨h1,h2,h3⟩:=touch_in h.s1 hc hz h0
  rw [h.rl.fr _ h1 _ (by omega)]
 ·rfl
theorem Tw.stored (h:Tw T F K K'){t:Nat}(hc:K.cur=t) (hc':K'.cur=t) (hz:Z0 T t) (pg ce v:Int):Tw T F (K.stored pg ce v) (K'.stored pg ce v):=by
 obtain ⟨b,hb⟩:=h.n1
 obtain ⟨b',hb'⟩:=h.n2
 have k1:=h.s1.stored pg ce v
 have k2:=h.s2.stored pg ce v
 revert k1 k2
 unfold RM.stored
 rw [<- touch_two h hc hc' hz]
 split
 ·intro k1 k2
  refine ⟨⟨h.rl.th,h.rl.od,h.rl.tn,h.rl.ps,h.rl.lf,fun f hf c hc=>?_,h.rl.cl⟩,k1,k2,⟨b,hb.same rfl rfl rfl⟩,⟨b',hb'.same rfl rfl rfl⟩,h.a1,h.a2⟩
  show frSet K.fr _ v _=frSet K'.fr _ v _
  unfold frSet
  rw [h.rl.fr f hf c hc]
 ·intro _ _;exact h
theorem Tw.unmap (h:Tw T F K K'){t:Nat}(hc:K.cur=t) (hc':K'.cur=t) (hz:Z0 T t) (pg:Int) (own:Bool):Tw T F (K.unmap pg own).2 (K'.unmap pg own).2:=by
 obtain ⟨b,hb⟩:=h.n1
 obtain ⟨b',hb'⟩:=h.n2
 have k1:=h.s1.unmap pg own
 have k2:=h.s2.unmap pg own
 revert k1 k2
 unfold RM.unmap
 have ht:¬ ((t:Int) < 0):=by omega
 rw [hc,hc',home_two h.s1 hc hz,home_two h.s2 hc' hz,<- findLf_two h.a1 h.a2 h.rl.lf pg]
 simp only [if_neg ht]
 split
 ·split
  ·intro k1 k2
   exact ⟨⟨h.rl.th,h.rl.od,h.rl.tn,h.rl.ps,gone_two h.s1.lf0 h.s2.lf0 h.rl.lf pg own,h.rl.fr,h.rl.cl⟩,k1,k2,⟨b,hb.same rfl rfl rfl⟩,⟨b',hb'.same rfl rfl rfl⟩,gone_apl h.a1 _ _ _,gone_apl h.a2 _ _ _⟩
  ·intro _ _;exact h
 ·intro _ _;exact h
theorem Tw.drop (h:Tw T F K K'){t:Nat}(hc:K.cur=t) (hc':K'.cur=t) (hz:Z0 T t) (a:Int):Tw T F (K.drop a).2 (K'.drop a).2:=by
 obtain ⟨b,hb⟩:=h.n1
 obtain ⟨b',hb'⟩:=h.n2
 have k1:=h.s1.drop a
 have k2:=h.s2.drop a
 revert k1 k2
 unfold RM.drop
 have ht:¬ ((t:Int) < 0):=by omega
 rw [hc,hc',home_two h.s1 hc hz,home_two h.s2 hc' hz,<- h.rl.ps]
 simp only [if_neg ht]
 split
 ·split
  ·intro k1 k2
   exact ⟨⟨h.rl.th,h.rl.od,h.rl.tn,fun n=>by show findQ (outQ _ _ _) _ _=findQ (outQ _ _ _) _ _;rw [outQ_find,outQ_find,h.rl.ps],h.rl.lf,h.rl.fr,h.rl.cl⟩,k1,k2,⟨b,hb.same rfl rfl rfl⟩,⟨b',hb'.same rfl rfl rfl⟩,h.a1,h.a2⟩
  ·intro _ _;exact h
 ·intro _ _;exact h
theorem Tw.derive (h:Tw T F K K'){t:Nat}(hc:K.cur=t) (hc':K'.cur=t) (hz:Z0 T t) (a c r:Int):Tw T F (K.derive a c r).2 (K'.derive a c r).2:=by
 obtain ⟨b,hb⟩:=h.n1
 obtain ⟨b',hb'⟩:=h.n2
 have k1:=h.s1.derive a c r
 have k2:=h.s2.derive a c r
 revert k1 k2
 unfold RM.derive
 have ht:¬ ((t:Int) < 0):=by omega
 rw [hc,hc',home_two h.s1 hc hz,home_two h.s2 hc' hz,<- h.rl.ps]
 simp only [if_neg ht]
 split
 ·split
  ·split
   ·intro k1 k2
    exact ⟨⟨h.rl.th,h.rl.od,h.rl.tn,fun n=>by show findQ (putQ _ _ _ _ _) _ _=findQ (putQ _ _ _ _ _) _ _;rw [putQ_find,putQ_find,h.rl.ps],h.rl.lf,h.rl.fr,h.rl.cl⟩,k1,k2,⟨b,hb.same rfl rfl rfl⟩,⟨b',hb'.same rfl rfl rfl⟩,h.a1,h.a2⟩
   ·intro _ _;exact h
  ·intro _ _;exact h
 ·intro _ _;exact h
theorem cur_two (h:Tw T F K K'){a b:Nat}(ha:K.cur=a) (hb:K'.cur=b) (za:Z0 T a) (zb:Z0 T b):a=b:=by
 rcases curM_best K.threads _ (Nat.le_refl _) with ⟨e,_⟩ | ⟨j,u,e,hj,hu,h1,hbest⟩
 ·exfalso;have:K.cur=-1:=e;omega
 ·rcases curM_best K'.threads _ (Nat.le_refl _) with ⟨e',_⟩ | ⟨j',x',e',hj',hx',h1',hbest'⟩
  ·exfalso;have:K'.cur=-1:=e';omega
  ·have e3:K.cur=j:=e
   have e4:K'.cur=j':=e'
   have:j=a:=by omega
   subst this
   have:j'=b:=by omega
   subst this
   obtain ⟨u',hu'⟩:=h.s1.at h.s2 hu
   obtain ⟨x,hx⟩:=h.s2.at h.s1 hx'
   have v:=vis_eq (h.rl.th j u u' za hu hu')
   have v':=vis_eq (h.rl.th j' x x' zb hx hx')
   have b1:=hbest j' x (by rw [h.len];exact hj') hx (by rw [v'.2.2.1];exact h1')
   have b2:=hbest' j u' (by rw [<- h.len];exact hj) hu' (by rw [<- v.2.2.1];exact h1)
   have t1:=h.rl.od j' j x u x' u' zb za hx hu hx' hu'
   obtain ⟨q,hq⟩:=h.n2
   have r1:=v.2.1
   have r2:=v'.2.1
   exact hq.o1 j j' u' x' hu' hx' (by omega)
theorem told_two (h:Tw T F K K'):∀ n,told K.passes 0 n=told K'.passes 0 n
 | 0=>rfl
 | n+1=>by simp only [told];rw [told_two h n,h.rl.ps]
theorem toldL_two (h:Tw T F K K'):∀ n,told (K.leaves.map quad) 0 n=told (K'.leaves.map quad) 0 n
 | 0=>rfl
 | n+1=>by simp only [told];rw [toldL_two h n,find_quad,find_quad,findLf_two h.a1 h.a2 h.rl.lf]
end
open Go.RowKit
structure Ac where
 kd:Int
 A:Int
 B:Int
 C:Int
 D:Int
 E:Int
 ws:List Int
def actF (dst frm:Int):Int:=if dst < 0/\frm < -1 then -1 else frm
def actM (c:Ac) (n:Nat):Ms:=
 ⟨pickI c.A 7-1,c.ws.take 4,if 0 < pickI c.E 3 then pickI (c.E.tdiv 3) 6 else -1,if 0 < pickI c.E 3 then 1+pickI (c.E.tdiv 20) 3 else 0,actF (pickI c.A 7-1) (pickI c.B ((n:Int)+2)-2),pickI c.C 7-1,pickI c.D 6-1⟩
noncomputable def doesM (n:Nat) (c:Ac) (K:RM):RM:=
 if pickI c.kd 12=0\/pickI c.kd 12=1 then K.tick
 else if pickI c.kd 12=2 then K.yield.2
 else if pickI c.kd 12=3 then K.stored (pickI c.A 6) (pickI c.B 4) c.C
 else if pickI c.kd 12=4 then (K.unmap (pickI c.A 6) (c.B.tmod 2 == 0)).2
 else if pickI c.kd 12=5 then (K.derive (pickI c.A 6) (pickI c.B 6) (1+pickI c.C 3)).2
 else if pickI c.kd 12=6 then (if c.B.tmod 4=0 then (K.drop (pickI c.A 6)).2 else K.tick)
 else (K.ipc (actM c n)).2
def isTick (c:Ac):Prop:=pickI c.kd 12=0\/pickI c.kd 12=1\/(pickI c.kd 12=6/\c.B.tmod 4≠0)
theorem does_keeps {P:RM->Prop}{n:Nat}{c:Ac}{K:RM}(ti:P K.tick) (yi:P K.yield.2) (st:∀ p q v,P (K.stored p q v)) (un:∀ p b,P (K.unmap p b).2) (de:∀ a b r,P (K.derive a b r).2) (dr:∀ a,P (K.drop a).2) (ip:∀ m,P (K.ipc m).2):P (doesM n c K):=by
 unfold doesM
 split
 ·exact ti
 ·split
  ·exact yi
  ·split
   ·exact st _ _ _
   ·split
    ·exact un _ _
    ·split
     ·exact de _ _ _
     ·split
      ·split
       ·exact dr _
       ·exact ti
      ·exact ip _
section
variable {T:List (Int×Int)}{F:Int->Prop}{K K':RM}
theorem Bd.does {Q L:List (Int×Int×Int×Int)}(h:Bd T Q L K) (n:Nat) (c:Ac):Bd T Q L (doesM n c K):=
 does_keeps (bd_clo.tick h) (bd_clo.yield h) (h.stored) (h.unmap) (h.derive) (h.drop) (fun m=>bd_clo.ipc m h)
theorem rv_does {L:List (Int×Int×Int×Int)}(h:Rv L K.leaves) (n:Nat) (c:Ac):Rv L (doesM n c K).leaves:=by
 refine does_keeps (P:=fun K=>Rv L K.leaves) (rv_clo.tick (b:=0) (K:=K) h) (rv_clo.yield (b:=0) h) (fun p q v=>?_) (rv_unmap h) (fun a b r=>?_) (fun a=>?_) (fun m=>rv_clo.ipc (b:=0) m h)
 ·unfold RM.stored;split <;> exact h
 ·unfold RM.derive;split
  ·exact h
  ·split
   ·split
    ·split <;> exact h
    ·exact h
   ·exact h
 ·unfold RM.drop;split
  ·exact h
  ·split
   ·split <;> exact h
   ·exact h
theorem OffS.does {K0:RM}(hF:∀ f,F f->0<=f) (h:OffS T F K0 K) (hz:∀ t:Nat,K.cur=t->¬ Z0 T t) (n:Nat) (c:Ac) (hc:¬ isTick c):OffS T F K0 (doesM n c K):=by
 unfold isTick at hc
 unfold doesM
 split
 ·rename_i e;exact absurd (e.elim .inl (fun e=>.inr (.inl e))) hc
 ·split
  ·exact h.yield hz
  ·split
   ·exact h.stored hF hz _ _ _
   ·split
    ·exact h.unmap hz _ _
    ·split
     ·exact h.derive hz _ _ _
     ·split
      ·rename_i e6
       split
       ·exact h.drop hz _
       ·rename_i e4;exact absurd (.inr (.inr ⟨e6,e4⟩)) hc
      ·exact h.ipc hz _
theorem Tw.does (h:Tw T F K K'){t:Nat}(hc:K.cur=t) (hc':K'.cur=t) (hz:Z0 T t) (n:Nat) (c:Ac):Tw T F (doesM n c K) (doesM n c K'):=by
 unfold doesM
 split
 ·exact h.tick hc hc' hz
 ·split
  ·exact h.yield hc hc'
  ·split
   ·exact h.stored hc hc' hz _ _ _
   ·split
    ·exact h.unmap hc hc' hz _ _
    ·split
     ·exact h.derive hc hc' hz _ _ _
     ·split
      ·split
       ·exact h.drop hc hc' hz _
       ·exact h.tick hc hc' hz
      ·exact h.ipc hc hc' hz _
theorem does_tick {n:Nat}{c:Ac}(h:pickI c.kd 12 < 2) (K:RM) (h0:0<=pickI c.kd 12):doesM n c K=K.tick:=by
 unfold doesM
 rw [if_pos (by omega)]
end
open Go.RowKit
def FrAp (L:List (Int×Int×Int×Int)):Prop:=∀ a∈L,∀ b∈L,a.2.2.1=b.2.2.1->a=b
section
variable {L:List (Int×Int×Int×Int)}{K:RM}
end
open Go.RowKit
section
variable {T:List (Int×Int)}{Q L:List (Int×Int×Int×Int)}{K:RM}
end
open Go.RowKit
def F0 (L:List (Int×Int×Int×Int)) (f:Int):Prop:=∃ q∈L,q.1=0/\q.2.2.1=f
theorem F0.ge {sp:Int}{T:List (Int×Int)}{Q L:List (Int×Int×Int×Int)}(h:Fits sp T Q L) (f:Int) (hf:F0 L f):0<=f:=by
 obtain ⟨⟨_,_⟩,⟨_,_⟩,_,_,_,ol,_⟩:=h
 obtain ⟨q,hq,_,rfl⟩:=hf
 obtain ⟨i,hi⟩:=List.getElem?_of_mem hq
 exact (ol i q hi).2.2.2.2.1
theorem sd_new {sp:Int}{T:List (Int×Int)}{Q L:List (Int×Int×Int×Int)}(hf:Fits sp T Q L) (hq:∀ p∈Q,p.1=0↔Z0 T p.2.2.1.toNat) (hd:FrAp L):Sdd T (F0 L) (RK.new sp T Q L).up:=by
 obtain ⟨⟨s1,s2⟩,⟨t1,t2⟩,ot,oq,aq,ol,al⟩:=hf
 have hs:∀ (i:Nat) t,(RK.new sp T Q L).up.threads[i]? = some t->∃ u,(born 0 T)[i]? = some u/\t=thOf u:=fun i t ht=>by
  have ht2:((born 0 T).map thOf)[i]? = some t:=ht
  rw [List.getElem?_map] at ht2
  rcases hx:(born 0 T)[i]? with _ | u
  ·rw [hx] at ht2;simp at ht2
  ·rw [hx] at ht2;simp at ht2;exact ⟨u,rfl,ht2.symm⟩
 refine ⟨by simp [RK.up,RK.new,born_length],fun i u hu=>?_,fun p hp=>?_,fun i u hu s2=>?_,fun l hl=>?_⟩
 ·obtain ⟨v,hv,rfl⟩:=hs i u hu
  obtain ⟨p,hp,e1,e2,_⟩:=born_at 0 i v hv
  have:=ot i p hp
  unfold okT at this
  exact ⟨by show 0<=v.1;omega,p,hp,e1,e2⟩
 ·obtain ⟨i,hi⟩:=List.getElem?_of_mem (show p∈Q from hp)
  have:=oq i p hi
  unfold okQ at this
  exact ⟨by omega,hq p hp⟩
 ·obtain ⟨v,hv,rfl⟩:=hs i u hu
  simp [thOf] at s2
 ·obtain ⟨p,hp,rfl⟩:=List.mem_map.1 (show l∈L.map lfOf from hl)
  obtain ⟨i,hi⟩:=List.getElem?_of_mem hp
  have:=ol i p hi
  unfold okQ at this
  refine ⟨by show 0<=p.1;omega,by show 0<=p.2.2.1;omega,fun e=>⟨.inl rfl,p,hp,e,rfl⟩,fun e=>⟨by show (-1:Int)≠0;omega,fun ⟨q,hq,e1,e2⟩=>e ?_⟩⟩
  have:q=p:=hd q hq p hp e2
  rw [<- this]
  exact e1
theorem tw_new {sp:Int}{T:List (Int×Int)}{Q L:List (Int×Int×Int×Int)}(hf:Fits sp T Q L) (hq:∀ p∈Q,p.1=0↔Z0 T p.2.2.1.toNat) (hd:FrAp L):Tw T (F0 L) (RK.new sp T Q L).up (RK.new sp T Q L).up:=by
 have o:=new_okM hf 0
 exact Tw.mk' (Rl.refl _) ⟨sd_new hf hq hd,⟨_,o.nm⟩,o.ft.ap⟩ ⟨sd_new hf hq hd,⟨_,o.nm⟩,o.ft.ap⟩
theorem RM.Ok.does {K:RM}{n:Nat}(h:K.Ok n) (m:Nat) (c:Ac):(doesM m c K).Ok (n+1):=
 does_keeps (P:=fun K=>K.Ok (n+1)) h.tick h.yield h.stored h.unmap h.derive h.drop h.ipc
open Go.RowKit
theorem mxk:Tryz.prog.follows .mixedOrders=true:=by kernel_rfl
theorem tdiv_in {e k:Int}(hk:0 < k) (l:-9223372036854775808<=e) (u:e<=9223372036854775807):-9223372036854775808<=e.tdiv k/\e.tdiv k<=9223372036854775807:=by
 rcases Int.le_total 0 e with h | h
 ·rw [Int.tdiv_eq_ediv_of_nonneg h]
  have h1:=Int.ediv_le_self k h
  have h2:=Int.ediv_nonneg h (Int.le_of_lt hk)
  omega
 ·have e1:e.tdiv k=-((-e).tdiv k):=by rw [Int.neg_tdiv];omega
  have h':0<=-e:=by omega
  rw [e1,Int.tdiv_eq_ediv_of_nonneg h']
  have h1:=Int.ediv_le_self k h'
  have h2:=Int.ediv_nonneg h' (Int.le_of_lt hk)
  omega
theorem wrap_in {z:Int}(l:-9223372036854775808<=z) (u:z<=9223372036854775807):IntKind.i64.wrap z=z:=by
 simp [IntKind.wrap,IntKind.signed,IntKind.bits]
 omega
theorem al3d (w:World) (o o1 o2:Obj):(((w.alloc o).alloc o1).alloc o2).drew.heap[w.heap.size+1]? = some o1:=by
 show (((w.alloc o).alloc o1).alloc o2).heap[w.heap.size+1]? = some o1
 have:=heap_alloc_new (w.alloc o) o1
 rw [size_alloc] at this
 rw [Below.heap_alloc _ _ _ (by simp only [size_alloc];omega)]
 exact this
theorem short4 (a:Option Addr) (m c:Nat) (ws:List Int) (w:World) (hI:Inl w 1 (.slice a m c) (ws.map lnI)) (hl:ws.length=m) (hc:m<=c) :
  Calls Tryz.prog 21 #[.slice a m c] w fun e w'=>e=.returned (.slice a (ws.take 4).length c)/\w'=w:=
 (short_any a m c ws w hI hl hc).mono (by rintro e w' ⟨k,rfl,_,hk,_,rfl⟩;exact ⟨by rw [hk],rfl⟩)
structure AcOk (W:World) (c:Ac) (s:Sv):Prop where
 b0:-9223372036854775808<=c.kd/\c.kd<=9223372036854775807
 b1:-9223372036854775808<=c.A/\c.A<=9223372036854775807
 b2:-9223372036854775808<=c.B/\c.B<=9223372036854775807
 b3:-9223372036854775808<=c.C/\c.C<=9223372036854775807
 b4:-9223372036854775808<=c.D/\c.D<=9223372036854775807
 b5:-9223372036854775808<=c.E/\c.E<=9223372036854775807
 wd:Inl W 1 (.slice s.a s.n s.c) (c.ws.map lnI)
 ln:c.ws.length=s.n
 cp:s.n<=s.c
abbrev acA (c:Ac) (s:Sv):Array Value:=#[.int .i64 c.kd,.int .i64 c.A,.int .i64 c.B,.int .i64 c.C,.int .i64 c.D,.int .i64 c.E,.slice s.a s.n s.c]
theorem message_any (c:Ac) (s:Sv) (n:Nat) (w:World) (h:AcOk w c s) (hn:n<=6) :
  Calls Tryz.prog 50 #[.agg (acA c s),.int .i64 n] w fun e w'=>e=.returned (msV (actM c n) s.a s.c)/\Below w.heap.size w w':=by
 have PA:=hid (fun w=>pickK_any c.A 7 w h.b1.1 h.b1.2 (by omega) (by omega))
 have PB:=hid (fun w=>pickK_any c.B (n+2) w h.b2.1 h.b2.2 (by omega) (by omega))
 have PC:=hid (fun w=>pickK_any c.C 7 w h.b3.1 h.b3.2 (by omega) (by omega))
 have PD:=hid (fun w=>pickK_any c.D 6 w h.b4.1 h.b4.2 (by omega) (by omega))
 have PE:=hid (fun w=>pickK_any c.E 3 w h.b5.1 h.b5.2 (by omega) (by omega))
 have PF:=hid (fun w=>pickK_any (c.E.tdiv 3) 6 w (tdiv_in (by omega) h.b5.1 h.b5.2).1 (tdiv_in (by omega) h.b5.1 h.b5.2).2 (by omega) (by omega))
 have PG:=hid (fun w=>pickK_any (c.E.tdiv 20) 3 w (tdiv_in (by omega) h.b5.1 h.b5.2).1 (tdiv_in (by omega) h.b5.1 h.b5.2).2 (by omega) (by omega))
 have rA:=pickI_in c.A (n:=7) (by omega)
 have rB:=pickI_in c.B (n:=(n:Int)+2) (by omega)
 have rC:=pickI_in c.C (n:=7) (by omega)
 have rD:=pickI_in c.D (n:=6) (by omega)
 have rE:=pickI_in c.E (n:=3) (by omega)
 have rF:=pickI_in (c.E.tdiv 3) (n:=6) (by omega)
 have rG:=pickI_in (c.E.tdiv 20) (n:=3) (by omega)
 have SH:=hid (fun w' (hb:Below w.heap.size w w')=>short4 s.a s.n s.c c.ws w' (h.wd.below (by omega) hb) h.ln h.cp)
 unfold actM msV
 obtain ⟨kd,A,B,C,D,E,ws⟩:=c
 dsimp only at *
 obtain ⟨pa,hpa⟩:∃ z,pickI A 7=z:=⟨_,rfl⟩
 obtain ⟨pb,hpb⟩:∃ z,pickI B ((n:Int)+2)=z:=⟨_,rfl⟩
 obtain ⟨pc,hpc⟩:∃ z,pickI C 7=z:=⟨_,rfl⟩
 obtain ⟨pd,hpd⟩:∃ z,pickI D 6=z:=⟨_,rfl⟩
 obtain ⟨pe,hpe⟩:∃ z,pickI E 3=z:=⟨_,rfl⟩
 obtain ⟨pf,hpf⟩:∃ z,pickI (E.tdiv 3) 6=z:=⟨_,rfl⟩
 obtain ⟨pg,hpg⟩:∃ z,pickI (E.tdiv 20) 3=z:=⟨_,rfl⟩
 obtain ⟨kl,hkl⟩:∃ z,(ws.take 4).length=z:=⟨_,rfl⟩
 rw [hpa] at PA rA ⊢
 rw [hpb] at PB rB ⊢
 rw [hpc] at PC rC ⊢
 rw [hpd] at PD rD ⊢
 rw [hpe] at PE rE ⊢
 rw [hpf] at PF rF ⊢
 rw [hpg] at PG rG ⊢
 rw [hkl] at SH ⊢
 have b5:=hid h.b5
 have wA:IntKind.i64.wrap (pa-1)=pa-1:=wrap_in (by omega) (by omega)
 have wB:IntKind.i64.wrap (pb-2)=pb-2:=wrap_in (by omega) (by omega)
 have wC:IntKind.i64.wrap (pc-1)=pc-1:=wrap_in (by omega) (by omega)
 have wD:IntKind.i64.wrap (pd-1)=pd-1:=wrap_in (by omega) (by omega)
 have wN:IntKind.i64.wrap ((n:Int)+2)=(n:Int)+2:=wrap_in (by omega) (by omega)
 clear hpa hpb hpc hpd hpe hpf hpg hkl h
 go_enter Tryz.func50,Tryz.ntmps50
 go_wp2_with fail
 go_cut [5] from 6 to 27 (fun v wx=>v=.pointer (some ⟨w.heap.size+1+1,0,none⟩)/\wx=(((w.alloc (.cells #[.int .i64 kd,.int .i64 A,.int .i64 B,.int .i64 C,.int .i64 D,.int .i64 E,.slice s.a s.n s.c] 63)).alloc (.cells #[.int .i64 0,.slice none 0 0,.int .i64 0,.int .i64 0,.int .i64 0,.int .i64 0,.int .i64 0] 43)).alloc (.cells #[.int .i64 (pa-1),.slice s.a kl s.c,.int .i64 (-1),.int .i64 0,.int .i64 (pb-2),.int .i64 (pc-1),.int .i64 (pd-1)] 43)).drew)
 case first=>
  go_region_held3 (fun w'=>w'.cell? ⟨w.heap.size,1,none⟩=some (.int .i64 A)/\w'.cell? ⟨w.heap.size,2,none⟩=some (.int .i64 B)/\w'.cell? ⟨w.heap.size,3,none⟩=some (.int .i64 C)/\w'.cell? ⟨w.heap.size,4,none⟩=some (.int .i64 D)/\w'.cell? ⟨w.heap.size,6,none⟩=some (.slice s.a s.n s.c)) (go_keep)
   (first
    | (go_at_call 16;with_reducible refine (PA.out _).mono ?_;rintro e w' ⟨rfl,rfl⟩)
    | (go_at_call 16;with_reducible refine (PB.out _).mono ?_;rintro e w' ⟨rfl,rfl⟩)
    | (go_at_call 16;with_reducible refine (PC.out _).mono ?_;rintro e w' ⟨rfl,rfl⟩)
    | (go_at_call 16;with_reducible refine (PD.out _).mono ?_;rintro e w' ⟨rfl,rfl⟩)
    | (go_at_call 21;refine (SH.out _ ?_).mono ?_;(first | exact ((Below.refl _ w).alloc (Nat.le_refl _) _).alloc (by simp) _ |>.drew | exact (((Below.refl _ w).alloc (Nat.le_refl _) _).alloc (by simp) _).alloc (by simp;omega) _ |>.drew);rintro e w' ⟨rfl,rfl⟩))
  all_goals (go_wp2_with fail;go_meet;exact ⟨rfl,rfl⟩)
 case rest=>
  obtain ⟨rfl,rfl⟩:=hcut
  have wG:IntKind.i64.wrap (1+pg)=1+pg:=wrap_in (by omega) (by omega)
  have wE3:IntKind.i64.wrap (E.tdiv 3)=E.tdiv 3:=wrap_in (tdiv_in (by omega) b5.out.1 b5.out.2).1 (tdiv_in (by omega) b5.out.1 b5.out.2).2
  have wE20:IntKind.i64.wrap (E.tdiv 20)=E.tdiv 20:=wrap_in (tdiv_in (by omega) b5.out.1 b5.out.2).1 (tdiv_in (by omega) b5.out.1 b5.out.2).2
  by_cases he:0 < pe
  ·have de:decide (0 < pe)=true:=by simpa using he
   by_cases h1:pa-1 < 0
   ·have d1:decide (pa-1 < 0)=true:=by simpa using h1
    by_cases h2:pb-2 < -1
    ·have d2:decide (pb-2 < -1)=true:=by simpa using h2
     go_wp2_with (first | (go_at_call 16;with_reducible refine (PE.out _).mono ?_;rintro e w1 ⟨rfl,rfl⟩) | (go_at_call 16;with_reducible refine (PF.out _).mono ?_;rintro e w1 ⟨rfl,rfl⟩) | (go_at_call 16;with_reducible refine (PG.out _).mono ?_;rintro e w1 ⟨rfl,rfl⟩))
     refine bodyPost_ret (results_cell_row Tryz.results50 _ _ (w.heap.size+1) 43 _ (0,0) _ rfl (al3d w _ _ _) Tryz.underlying43 rfl (by kernel_rfl)) rfl ⟨?_,((((Below.refl _ w).alloc (Nat.le_refl _) _).alloc (by simp) _).alloc (by simp;omega) _).drew⟩
     simp [actF]
     try omega
    ·have d2:decide (pb-2 < -1)=false:=by simpa using h2
     go_wp2_with (first | (go_at_call 16;with_reducible refine (PE.out _).mono ?_;rintro e w1 ⟨rfl,rfl⟩) | (go_at_call 16;with_reducible refine (PF.out _).mono ?_;rintro e w1 ⟨rfl,rfl⟩) | (go_at_call 16;with_reducible refine (PG.out _).mono ?_;rintro e w1 ⟨rfl,rfl⟩))
     refine bodyPost_ret (results_cell_row Tryz.results50 _ _ (w.heap.size+1) 43 _ (0,0) _ rfl (al3d w _ _ _) Tryz.underlying43 rfl (by kernel_rfl)) rfl ⟨?_,((((Below.refl _ w).alloc (Nat.le_refl _) _).alloc (by simp) _).alloc (by simp;omega) _).drew⟩
     simp [actF]
     try omega
   ·have d1:decide (pa-1 < 0)=false:=by simpa using h1
    go_wp2_with (first | (go_at_call 16;with_reducible refine (PE.out _).mono ?_;rintro e w1 ⟨rfl,rfl⟩) | (go_at_call 16;with_reducible refine (PF.out _).mono ?_;rintro e w1 ⟨rfl,rfl⟩) | (go_at_call 16;with_reducible refine (PG.out _).mono ?_;rintro e w1 ⟨rfl,rfl⟩))
    refine bodyPost_ret (results_cell_row Tryz.results50 _ _ (w.heap.size+1) 43 _ (0,0) _ rfl (al3d w _ _ _) Tryz.underlying43 rfl (by kernel_rfl)) rfl ⟨?_,((((Below.refl _ w).alloc (Nat.le_refl _) _).alloc (by simp) _).alloc (by simp;omega) _).drew⟩
    simp [actF]
    try omega
  ·have de:decide (0 < pe)=false:=by simpa using he
   by_cases h1:pa-1 < 0
   ·have d1:decide (pa-1 < 0)=true:=by simpa using h1
    by_cases h2:pb-2 < -1
    ·have d2:decide (pb-2 < -1)=true:=by simpa using h2
     go_wp2_with (first | (go_at_call 16;with_reducible refine (PE.out _).mono ?_;rintro e w1 ⟨rfl,rfl⟩) | (go_at_call 16;with_reducible refine (PF.out _).mono ?_;rintro e w1 ⟨rfl,rfl⟩) | (go_at_call 16;with_reducible refine (PG.out _).mono ?_;rintro e w1 ⟨rfl,rfl⟩))
     refine bodyPost_ret (results_cell_row Tryz.results50 _ _ (w.heap.size+1) 43 _ (0,0) _ rfl (al3d w _ _ _) Tryz.underlying43 rfl (by kernel_rfl)) rfl ⟨?_,((((Below.refl _ w).alloc (Nat.le_refl _) _).alloc (by simp) _).alloc (by simp;omega) _).drew⟩
     simp [actF]
     try omega
    ·have d2:decide (pb-2 < -1)=false:=by simpa using h2
     go_wp2_with (first | (go_at_call 16;with_reducible refine (PE.out _).mono ?_;rintro e w1 ⟨rfl,rfl⟩) | (go_at_call 16;with_reducible refine (PF.out _).mono ?_;rintro e w1 ⟨rfl,rfl⟩) | (go_at_call 16;with_reducible refine (PG.out _).mono ?_;rintro e w1 ⟨rfl,rfl⟩))
     refine bodyPost_ret (results_cell_row Tryz.results50 _ _ (w.heap.size+1) 43 _ (0,0) _ rfl (al3d w _ _ _) Tryz.underlying43 rfl (by kernel_rfl)) rfl ⟨?_,((((Below.refl _ w).alloc (Nat.le_refl _) _).alloc (by simp) _).alloc (by simp;omega) _).drew⟩
     simp [actF]
     try omega
   ·have d1:decide (pa-1 < 0)=false:=by simpa using h1
    go_wp2_with (first | (go_at_call 16;with_reducible refine (PE.out _).mono ?_;rintro e w1 ⟨rfl,rfl⟩) | (go_at_call 16;with_reducible refine (PF.out _).mono ?_;rintro e w1 ⟨rfl,rfl⟩) | (go_at_call 16;with_reducible refine (PG.out _).mono ?_;rintro e w1 ⟨rfl,rfl⟩))
    refine bodyPost_ret (results_cell_row Tryz.results50 _ _ (w.heap.size+1) 43 _ (0,0) _ rfl (al3d w _ _ _) Tryz.underlying43 rfl (by kernel_rfl)) rfl ⟨?_,((((Below.refl _ w).alloc (Nat.le_refl _) _).alloc (by simp) _).alloc (by simp;omega) _).drew⟩
    simp [actF]
    try omega
open Go.RowKit
theorem tickTo_id {K:RM}(h:∀ (i:Nat) u,K.threads[i]? = some u->u.time≠K.clock):∀ n,K.tickTo n=K
 | 0=>rfl
 | n+1=>by
  have ih:=tickTo_id h n
  simp only [RM.tickTo]
  rw [ih]
  split
  ·rfl
  ·rename_i x hx
   rw [if_neg (h n x hx)]
def tuT (n:Nat):List (Int×Int):=List.replicate n (0,1) ++ [(0,0)]
theorem tu_fits {n:Nat}(_h1:1<=n) (h5:n<=5):Fits 1 (tuT n) [] []:=by
 refine ⟨by omega,by simp [tuT];omega,fun i p hp=>?_,fun i p hp=>by simp at hp,fun i k p q _ hp=>by simp at hp,fun i p hp=>by simp at hp,fun i k p q _ hp=>by simp at hp⟩
 have:=List.mem_of_getElem? hp
 simp [tuT] at this
 rcases this with ⟨_,rfl⟩ | rfl <;> simp [okT]
def plc (n i j:Nat):Nat:=(j+n-i / 3 % n) % n
structure TI (n i:Nat) (K:RM):Prop where
 len:K.threads.length=n+1
 th:∀ j,j < n->∃ u,K.threads[j]? = some u/\u.st=1/\u.row=1/\u.time=-1/\u.left=(if j=i / 3 % n then 3-((i % 3:Nat):Int) else 3)
 low:∃ u,K.threads[n]? = some u/\u.st=1/\u.row=0/\u.time=-1
 ord:∀ j k u v,j < n->k < n->K.threads[j]? = some u->K.threads[k]? = some v->plc n i j < plc n i k->u.ord < v.ord
 last:∀ (j:Nat) u,K.threads[j]? = some u->u.ord < K.last
 clk:0<=K.clock
theorem TI.cur {n i:Nat}{K:RM}(h1:1<=n) (h:TI n i K):K.cur=((i / 3 % n:Nat):Int):=by
 have hc:i / 3 % n < n:=Nat.mod_lt _ (by omega)
 obtain ⟨v,hv,v1,v2,_⟩:=h.th _ hc
 rcases curM_best K.threads K.threads.length (Nat.le_refl _) with ⟨_,hno⟩ | ⟨j,u,e,hj,hu,u1,hb⟩
 ·exact absurd v1 (hno _ v (by rw [h.len];omega) hv)
 ·show curM K.threads K.threads.length=_
  rw [e]
  have b:=hb _ v (by rw [h.len];omega) hv v1
  rw [h.len] at hj
  by_cases ej:j=i / 3 % n
  ·rw [ej]
  ·exfalso
   by_cases en:j=n
   ·obtain ⟨z,hz,_,z2,_⟩:=h.low
    rw [en,hz] at hu
    cases hu
    omega
   ·obtain ⟨z,hz,_,z2,_⟩:=h.th j (by omega)
    rw [hz] at hu
    have e9:=Option.some.inj hu
    rw [e9] at hz z2
    have hp:plc n i (i / 3 % n)=0:=by
     unfold plc
     rw [show i / 3 % n+n-i / 3 % n=n by omega,Nat.mod_self]
    have hq:0 < plc n i j:=by
     unfold plc
     rcases Nat.lt_or_ge j (i / 3 % n) with g | g
     ·rw [Nat.mod_eq_of_lt (by omega)];omega
     ·have e2:j+n-i / 3 % n=(j-i / 3 % n)+n:=by omega
      rw [e2,Nat.add_mod_right,Nat.mod_eq_of_lt (by omega)];omega
    have:=h.ord _ j v u hc (by omega) hv hz (by omega)
    omega
theorem plc_next {n i:Nat}(h1:1<=n) (h5:n<=5) (hr:i % 3=2){j:Nat}(hj:j < n):plc n (i+1) j=if j=i / 3 % n then n-1 else plc n i j-1:=by
 have e:(i+1) / 3=i / 3+1:=by omega
 unfold plc
 rw [e]
 generalize i / 3=q
 have hn:n=1\/n=2\/n=3\/n=4\/n=5:=by omega
 rcases hn with rfl | rfl | rfl | rfl | rfl <;> split <;> omega
theorem plc_same {n i:Nat}(hr:i % 3≠2) (j:Nat):plc n (i+1) j=plc n i j:=by
 have e:(i+1) / 3=i / 3:=by omega
 unfold plc
 rw [e]
theorem plc_pos {n i:Nat}(h5:n<=5){j:Nat}(hj:j < n) (hne:j≠i / 3 % n):0 < plc n i j/\plc n i j < n:=by
 unfold plc
 generalize i / 3=q at *
 have hn:n=1\/n=2\/n=3\/n=4\/n=5:=by omega
 rcases hn with rfl | rfl | rfl | rfl | rfl <;> omega
theorem TI.tick {n i:Nat}{K:RM}(h1:1<=n) (h5:n<=5) (h:TI n i K):TI n (i+1) K.tick:=by
 have hc:i / 3 % n < n:=Nat.mod_lt _ (by omega)
 have cu:K.ticked.cur=((i / 3 % n:Nat):Int):=by show K.cur=_;exact h.cur h1
 obtain ⟨v,hv,v1,v2,v3,v4⟩:=h.th _ hc
 rw [if_pos rfl] at v4
 have sp:K.ticked.spent=if v.left-1=0 then (K.ticked.setLeft (i / 3 % n) 3).toLast (i / 3 % n) else K.ticked.setLeft (i / 3 % n) (v.left-1):=by
  unfold RM.spent
  rw [cu,Int.toNat_natCast,show K.ticked.threads[i / 3 % n]? = some v from hv]
  show (if _ < _ then _ else _)=_
  rw [if_neg (by omega)]
 have nt:∀ (f:Th->Th) (K':RM),K'.threads=K.threads.modify (i / 3 % n) f->K'.clock=K.clock+1->(∀ u,(f u).time=u.time)->∀ (j:Nat) u,K'.threads[j]? = some u->u.time≠K'.clock:=by
  intro f K' ht hcl hf j u hu
  rw [ht] at hu
  obtain ⟨x,hx,c⟩:=upd_get (K:=K) (f:=f) hu
  have jl:j < n+1:=by rw [<- h.len];exact (List.getElem?_eq_some_iff.1 hx).1
  have xt:x.time=-1:=by
   by_cases ej:j=n
   ·obtain ⟨z,hz,_,_,z3⟩:=h.low
    rw [ej,hz] at hx;cases hx;exact z3
   ·obtain ⟨z,hz,_,_,z3,_⟩:=h.th j (by omega)
    rw [hz] at hx;cases hx;exact z3
  have ut:u.time=-1:=by
   rcases c with ⟨_,rfl⟩ | ⟨_,rfl⟩
   ·rw [hf];exact xt
   ·exact xt
  have:=h.clk
  omega
 by_cases hr:i % 3=2
 ·have e0:v.left-1=0:=by rw [v4,hr];rfl
  rw [if_pos e0] at sp
  have ht:((K.ticked.setLeft (i / 3 % n) 3).toLast (i / 3 % n)).threads=(K.threads.modify (i / 3 % n) (fun u=>{ u with left:=3 })).modify (i / 3 % n) (fun u=>{ u with ord:=K.last }):=rfl
  have ht2:((K.ticked.setLeft (i / 3 % n) 3).toLast (i / 3 % n)).threads=K.threads.modify (i / 3 % n) (fun u=>{ u with left:=3,ord:=K.last }):=by
   rw [ht,List.modify_modify_eq];rfl
  have tt:K.tick=(K.ticked.setLeft (i / 3 % n) 3).toLast (i / 3 % n):=by
   unfold RM.tick
   rw [sp]
   exact tickTo_id (nt _ _ ht2 rfl (by intro u;rfl)) _
  rw [tt]
  have get:∀ (j:Nat) u,((K.ticked.setLeft (i / 3 % n) 3).toLast (i / 3 % n)).threads[j]? = some u->∃ x,K.threads[j]? = some x/\((j=i / 3 % n/\u={ x with left:=3,ord:=K.last })\/(j≠i / 3 % n/\u=x)):=fun j u hu=>by
   rw [ht2] at hu;exact upd_get (K:=K) hu
  have put:∀ (j:Nat) x,K.threads[j]? = some x->((K.ticked.setLeft (i / 3 % n) 3).toLast (i / 3 % n)).threads[j]? = some (if j=i / 3 % n then { x with left:=3,ord:=K.last } else x):=fun j x hx=>by
   rw [ht2,List.getElem?_modify]
   by_cases e:i / 3 % n=j
   ·rw [hx];simp [e]
   ·rw [hx,if_neg (fun q=>e q.symm)];simp [e]
  have q3:(i+1) % 3=0:=by omega
  refine ⟨by rw [ht2];simp [h.len],fun j hj=>?_,?_,fun j k u w hj hk hu hw hp=>?_,fun j u hu=>?_,by show 0<=K.clock+1;have:=h.clk;omega⟩
  ·obtain ⟨z,hz,z1,z2,z3,z4⟩:=h.th j hj
   refine ⟨_,put j z hz,?_⟩
   rw [q3]
   by_cases e:j=i / 3 % n
   ·rw [if_pos e];exact ⟨z1,z2,z3,by split <;> rfl⟩
   ·rw [if_neg e];rw [if_neg e] at z4;exact ⟨z1,z2,z3,by rw [z4];split <;> rfl⟩
  ·obtain ⟨z,hz,z1,z2,z3⟩:=h.low
   have e:¬ n=i / 3 % n:=by omega
   exact ⟨z,by rw [put n z hz,if_neg e],z1,z2,z3⟩
  ·rw [plc_next h1 h5 hr hj,plc_next h1 h5 hr hk] at hp
   obtain ⟨x,hx,cx⟩:=get j u hu
   obtain ⟨y,hy,cy⟩:=get k w hw
   by_cases ej:j=i / 3 % n
   ·rw [if_pos ej] at hp
    by_cases ek:k=i / 3 % n
    ·rw [if_pos ek] at hp;omega
    ·rw [if_neg ek] at hp;have:=plc_pos h5 hk ek;omega
   ·rw [if_neg ej] at hp
    have ux:u=x:=by rcases cx with ⟨e,_⟩ | ⟨_,e⟩;exact absurd e ej;exact e
    by_cases ek:k=i / 3 % n
    ·have wy:w.ord=K.last:=by rcases cy with ⟨_,e⟩ | ⟨e,_⟩;(rw [e]);exact absurd ek e
     rw [ux,wy];exact h.last j x hx
    ·rw [if_neg ek] at hp
     have wy:w=y:=by rcases cy with ⟨e,_⟩ | ⟨_,e⟩;exact absurd e ek;exact e
     have:=plc_pos h5 hj ej
     have:=plc_pos h5 hk ek
     rw [ux,wy]
     exact h.ord j k x y hj hk hx hy (by omega)
  ·obtain ⟨x,hx,c⟩:=get j u hu
   show u.ord < K.last+1
   rcases c with ⟨_,rfl⟩ | ⟨_,rfl⟩
   ·show K.last < K.last+1;omega
   ·have:=h.last j u hx;omega
 ·have e0:¬ v.left-1=0:=by rw [v4];omega
  rw [if_neg e0] at sp
  have ht2:(K.ticked.setLeft (i / 3 % n) (v.left-1)).threads=K.threads.modify (i / 3 % n) (fun u=>{ u with left:=v.left-1 }):=rfl
  have tt:K.tick=K.ticked.setLeft (i / 3 % n) (v.left-1):=by
   unfold RM.tick
   rw [sp]
   exact tickTo_id (nt _ _ ht2 rfl (by intro u;rfl)) _
  rw [tt]
  have get:∀ (j:Nat) u,(K.ticked.setLeft (i / 3 % n) (v.left-1)).threads[j]? = some u->∃ x,K.threads[j]? = some x/\u.ord=x.ord:=fun j u hu=>by
   rw [ht2] at hu
   obtain ⟨x,hx,⟨_,rfl⟩ | ⟨_,rfl⟩⟩:=upd_get (K:=K) hu
   ·exact ⟨x,hx,rfl⟩
   ·exact ⟨u,hx,rfl⟩
  have put:∀ (j:Nat) x,K.threads[j]? = some x->(K.ticked.setLeft (i / 3 % n) (v.left-1)).threads[j]? = some (if j=i / 3 % n then { x with left:=v.left-1 } else x):=fun j x hx=>by
   rw [ht2,List.getElem?_modify]
   by_cases e:i / 3 % n=j
   ·rw [hx];simp [e]
   ·rw [hx,if_neg (fun q=>e q.symm)];simp [e]
  have q3:(i+1) / 3=i / 3:=by omega
  refine ⟨by rw [ht2];simp [h.len],fun j hj=>?_,?_,fun j k u w hj hk hu hw hp=>?_,fun j u hu=>?_,by show 0<=K.clock+1;have:=h.clk;omega⟩
  ·obtain ⟨z,hz,z1,z2,z3,z4⟩:=h.th j hj
   refine ⟨_,put j z hz,?_⟩
   rw [q3]
   by_cases e:j=i / 3 % n
   ·rw [if_pos e,if_pos e];exact ⟨z1,z2,z3,by show v.left-1=_;rw [v4];omega⟩
   ·rw [if_neg e,if_neg e];rw [if_neg e] at z4;exact ⟨z1,z2,z3,z4⟩
  ·obtain ⟨z,hz,z1,z2,z3⟩:=h.low
   have e:¬ n=i / 3 % n:=by omega
   exact ⟨z,by rw [put n z hz,if_neg e],z1,z2,z3⟩
  ·rw [plc_same hr,plc_same hr] at hp
   obtain ⟨x,hx,ex⟩:=get j u hu
   obtain ⟨y,hy,ey⟩:=get k w hw
   rw [ex,ey]
   exact h.ord j k x y hj hk hx hy hp
  ·obtain ⟨x,hx,ex⟩:=get j u hu
   rw [ex];exact h.last j x hx
theorem ti_new {n:Nat}(h1:1<=n):TI n 0 (RK.new 1 (tuT n) [] []).up:=by
 have hl:(tuT n).length=n+1:=by simp [tuT]
 have hs:∀ (i:Nat) t,(RK.new 1 (tuT n) [] []).up.threads[i]? = some t->∃ u,(born 0 (tuT n))[i]? = some u/\t=thOf u:=fun i t ht=>by
  have ht2:((born 0 (tuT n)).map thOf)[i]? = some t:=ht
  rw [List.getElem?_map] at ht2
  rcases hx:(born 0 (tuT n))[i]? with _ | u
  ·rw [hx] at ht2;simp at ht2
  ·rw [hx] at ht2;simp at ht2;exact ⟨u,rfl,ht2.symm⟩
 have hlen:(RK.new 1 (tuT n) [] []).up.threads.length=n+1:=by simp [RK.up,RK.new,born_length,hl]
 have ho:∀ (i:Nat) t,(RK.new 1 (tuT n) [] []).up.threads[i]? = some t->t.ord=i/\i < n+1:=fun i t ht=>by
  obtain ⟨u,hu,rfl⟩:=hs i t ht
  have:=born_ord 0 i u hu
  exact ⟨by show u.2.2.1=_;rw [this];simp,by rw [<- hlen];exact (List.getElem?_eq_some_iff.1 ht).1⟩
 have get:∀ j,j < n+1->∃ t,(RK.new 1 (tuT n) [] []).up.threads[j]? = some t/\t.st=1/\t.time=-1/\t.left=3/\t.row=(if j < n then 1 else 0):=fun j hj=>by
  have hj2:j < (RK.new 1 (tuT n) [] []).up.threads.length:=by omega
  refine ⟨_,List.getElem?_eq_getElem hj2,?_⟩
  obtain ⟨u,hu,e⟩:=hs j _ (List.getElem?_eq_getElem hj2)
  obtain ⟨p,hp,e1,e2,e3⟩:=born_at 0 j u hu
  rw [e]
  refine ⟨rfl,rfl,e3,?_⟩
  show u.2.1=_
  rw [e2]
  unfold tuT at hp
  by_cases q:j < n
  ·rw [List.getElem?_append_left (by simpa using q),List.getElem?_replicate,if_pos q] at hp
   cases hp
   rw [if_pos q]
  ·have:j=n:=by omega
   subst this
   rw [List.getElem?_append_right (by simp)] at hp
   simp at hp
   rw [<- hp,if_neg q]
 refine ⟨hlen,fun j hj=>?_,?_,fun j k u w hj hk hu hw hp=>?_,fun j u hu=>?_,by show (0:Int)<=0;omega⟩
 ·obtain ⟨t,ht,t1,t2,t3,t4⟩:=get j (by omega)
  rw [if_pos hj] at t4
  exact ⟨t,ht,t1,t4,t2,by rw [t3];split <;> rfl⟩
 ·obtain ⟨t,ht,t1,t2,t3,t4⟩:=get n (by omega)
  rw [if_neg (by omega)] at t4
  exact ⟨t,ht,t1,t4,t2⟩
 ·have h2:=(ho j u hu).1
  have h3:=(ho k w hw).1
  unfold plc at hp
  simp at hp
  rw [Nat.mod_eq_of_lt hj,Nat.mod_eq_of_lt hk] at hp
  omega
 ·have h2:=ho j u hu
  show u.ord < ((tuT n).length:Int)
  rw [hl];omega
open Go.RowKit
theorem t_oneK (p:Int×Int):∀ u∈tRow p,u.oneCell'=true:=by
 intro u hu;simp [tRow] at hu;rcases hu with rfl | rfl <;> rfl
theorem q_oneK (p:Int×Int×Int×Int):∀ u∈qRow p,u.oneCell'=true:=by
 intro u hu;simp [qRow] at hu;rcases hu with rfl | rfl | rfl | rfl <;> rfl
theorem Sl.inlAny {w:World}{e:TypeId}{size:Nat}{v:Value}{rows:List (List Value)}(h:Sl w e size v rows) (h1:∀ r∈rows,∀ u∈r,u.oneCell'=true) (hl:rows.length<=maxLen):Inl w size v rows:=by
 rcases h.form with ⟨rfl,rfl⟩ | ⟨g,cap,rfl,_⟩
 ·exact ⟨by simp,by simp,none,0,rfl,by simp,.inl rfl⟩
 ·have:=Sl.part h h1 0 rows.length cap (.inr (by omega)) (by simp) hl
  simpa using this
theorem Sl.inlT {w:World}{v:Value}{T:List (Int×Int)}(h:Sl w 34 2 v (T.map tRow)) (hl:T.length<=100):Inl w 2 v (T.map tRow):=
 h.inlAny (by intro r hr;obtain ⟨p,_,rfl⟩:=List.mem_map.1 hr;exact t_oneK p) (by simp;unfold maxLen;omega)
theorem Sl.inlQ {w:World}{e:TypeId}{v:Value}{Q:List (Int×Int×Int×Int)}(h:Sl w e 4 v (Q.map qRow)) (hl:Q.length<=100):Inl w 4 v (Q.map qRow):=
 h.inlAny (by intro r hr;obtain ⟨p,_,rfl⟩:=List.mem_map.1 hr;exact q_oneK p) (by simp;unfold maxLen;omega)
section
variable {Rep:World->Nat->(Nat->Prop)->RM->Prop}(A:ApM Rep)
include A in
theorem turns_any (th ti:Int) (w:World) (hg:Gl w) (h1:-9223372036854775808<=th) (h2:th<=9223372036854775807) (h3:-9223372036854775808<=ti) (h4:ti<=9223372036854775807) :
  Calls Tryz.prog 7 #[.int .i64 th,.int .i64 ti] w fun e w'=>e=.returned (.bool true)/\Below w.heap.size w w':=by
 obtain ⟨i0,hi0,hz0,hz1,hz2⟩:=info_parts Tryz.infoN34
 have P1:=fun w=>pickK_any th 5 w h1 h2 (by omega) (by omega)
 have P2:=fun w=>pickK_any ti 100 w h3 h4 (by omega) (by omega)
 obtain ⟨n0,hn0⟩:=Int.eq_ofNat_of_zero_le (pickI_in th (n:=5) (by omega)).1
 have n5:n0 < 5:=by have:=(pickI_in th (n:=5) (by omega)).2;omega
 obtain ⟨q,hq⟩:=Int.eq_ofNat_of_zero_le (pickI_in ti (n:=100) (by omega)).1
 have q100:q < 100:=by have:=(pickI_in ti (n:=100) (by omega)).2;omega
 rw [hn0] at P1
 rw [hq] at P2
 have HK:=hid (known_any A w hg)
 have HG:=hid hg
 have HP:=hid (And.intro P1 P2)
 clear hn0 hq P1 P2 hg h1 h2 h3 h4
 go_enter Tryz.func7,Tryz.ntmps7
 go_wp2_with fail
 refine HK.out.mono ?_
 rintro e w1 ⟨rfl,B1⟩
 have HB1:=hid B1
 clear B1
 go_wp2_with (go_at_call 16;refine (HP.out.1 _).mono ?_;rintro e w2 ⟨rfl,rfl⟩)
 have C0:=hid (cfg_first (W:=w) 1 HB1.out)
 go_loopw [8] (fun i wr=>∃ (k:Nat) (a:Option Addr) (c:Nat),k<=n0+1/\i=.int .i64 k/\Hid (CfgAt w wr w2.heap.size 1 (List.replicate k (0,1)) [] [] (.slice a k c) (.slice none 0 0) (.slice none 0 0))) (fun i _=>n0+1-(intOf i).toNat)
 case atStart=>exact ⟨0,none,0,Nat.zero_le _,rfl,C0.out⟩
 case round=>
  obtain ⟨k,a,c,hk,rfl,HC⟩:=hrel
  have lc:=HC.out.lt
  have k1:=(HC.out.cell 1).trans (show _=some (Value.slice a k c) from rfl)
  by_cases hkn:k < n0+1
  ·have hkn':(k:Int) < (n0:Int)+1:=by omega
   go_wp2_with (at_builtin;go_must (refine wpList_append_n _ rfl _ _ 28 rfl 34 i0 _ 2 16 Tryz.underlying28 hi0 hz0 hz1 hz2 rfl (by decide) (.slice a k c) ((List.replicate k ((0:Int),(1:Int))).map tRow) rfl (HC.out.below ((Below.refl _ wr).alloc (Nat.le_refl _) _)).sT (some ⟨wr.heap.size,0,none⟩) 1 1 [tRow (0,1)] rfl (inl_row (tRow (0,1)) 34 rfl (t_oneK _)) (k+1) (by simp) (by unfold maxLen;omega) (by omega) ?_);intro a3 c3 w3 G3;obtain ⟨u1,u2,H3⟩:=HC.out.addT ((Fr.refl (fun _=>False) wr).alloc _) G3;replace H3:=hid H3;clear G3)
   refine ⟨⟨k+1,a3,c3,by omega,by go_num,?_⟩,by simp [intOf];omega⟩
   have:=H3.out
   rw [show List.replicate k ((0:Int),(1:Int)) ++ [(0,1)]=List.replicate (k+1) (0,1) by rw [List.replicate_succ']] at this
   exact this
  ·have:k=n0+1:=by omega
   subst this
   go_wp2_with (first
    | (at_builtin;go_must (refine wpList_append_n _ rfl _ _ 28 rfl 34 i0 _ 2 16 Tryz.underlying28 hi0 hz0 hz1 hz2 rfl (by decide) (.slice a (n0+1) c) ((List.replicate (n0+1) ((0:Int),(1:Int))).map tRow) rfl (HC.out.below ((Below.refl _ wr).alloc (Nat.le_refl _) _)).sT (some ⟨wr.heap.size,0,none⟩) 1 1 [tRow (0,0)] rfl (inl_row (tRow (0,0)) 34 rfl (t_oneK _)) (n0+1+1) (by simp) (by unfold maxLen;omega) (by omega) ?_);intro a3 c3 w3 G3;obtain ⟨u1,u2,H3⟩:=HC.out.addT ((Fr.refl (fun _=>False) wr).alloc _) G3;have v0:=(H3.cell 0).trans (show _=some (Value.int .i64 1) from rfl);have v1:=(H3.cell 1).trans (show _=some (Value.slice a3 (n0+1+1) c3) from rfl);have v2:=(H3.cell 2).trans (show _=some (Value.slice none 0 0) from rfl);have v3:=(H3.cell 3).trans (show _=some (Value.slice none 0 0) from rfl);have l3:=H3.lt;replace H3:=hid H3;clear G3))
   have HT:Hid (Calls Tryz.prog 17 #[.agg #[.int .i64 1,.slice a3 (n0+1+1) c3,.slice none 0 0,.slice none 0 0]] (w3.setCell ⟨w2.heap.size,1,none⟩ (.slice a3 (n0+1+1) c3)) _):=boot_any A 1 a3 none none (n0+1+1) 0 0 c3 0 0 (tuT (n0+1)) [] [] _ (HG.out.below H3.out.bel) (H3.out.sT.inlT (by simp;omega)) (H3.out.sP.inlQ (by simp)) (H3.out.sL.inlQ (by simp)) (tu_fits (by omega) (by omega)) 0
   refine HT.out.mono ?_
   rintro e w4 ⟨x,S,rfl,K4,B4⟩
   have H4:=hid (And.intro K4 H3.out.bel)
   clear K4 B4 HT
   go_wp2_with fail
   have hne:((n0:Int)+1 == 0)=false:=by simp;omega
   go_loopw [10] (fun i wq=>∃ (k:Nat) (S':Nat->Prop) (K:RM),k<=q/\i=.int .i64 k/\Hid (KS Rep (w3.setCell ⟨w2.heap.size,1,none⟩ (.slice a3 (n0+1+1) c3)) wq x S' K k/\TI (n0+1) k K)) (fun i _=>q-(intOf i).toNat)
   case atStart=>exact ⟨0,S,_,Nat.zero_le _,rfl,H4.out.1,ti_new (by omega)⟩
   case round=>
    obtain ⟨k,S',K,hk,rfl,HC2⟩:=hrel
    by_cases hkq:k < q
    ·have hkq':(k:Int) < (q:Int):=by omega
     have hcur:=HC2.out.2.cur (by omega)
     have C5:=hid (fun w' (hb:Below wr.heap.size wr w')=>ks_current A (HC2.out.1.below A hb))
     rw [hcur] at C5
     go_wp2_with (go_at_call 16;refine (HP.out.2 _).mono ?_;rintro e w5 ⟨rfl,rfl⟩)
     obtain ⟨cc,hcc⟩:∃ cc,k / 3 % (n0+1)=cc:=⟨_,rfl⟩
     have hc1:((cc:Int) != (k:Int) / 3 % (1+(n0:Int)))=false:=by
      have:(cc:Int)=(k:Int) / 3 % (1+(n0:Int)):=by
       rw [<- hcc,Int.natCast_emod,Int.natCast_ediv,show ((n0+1:Nat):Int)=1+(n0:Int) by omega];rfl
      rw [<- this];simp
     rw [hcc] at C5
     have hb1:((1:Int)+(n0:Int) == 0)=false:=by simp;omega
     clear hcur
     go_region_with (go_at_call 18;refine (C5.out _ ((Below.refl _ _).drew)).mono ?_;rintro e w6 ⟨rfl,_,K6⟩;replace K6:=hid K6)
     all_goals
      go_wp2_with (go_at_call 19;refine (ks_tick A K6.out (by omega)).mono ?_;rintro e w7 ⟨rfl,S7,K7,_⟩;replace K7:=hid K7)
      exact ⟨⟨k+1,S7,K.tick,by omega,by go_num,K7.out,HC2.out.2.tick (by omega) (by omega)⟩,by simp [intOf];omega⟩
    ·go_wp2_with (go_at_call 16;refine (HP.out.2 _).mono ?_;rintro e w5 ⟨rfl,rfl⟩)
     go_ret
     exact ⟨rfl,H4.out.2.trans (HC2.out.1.bel.mono H4.out.2.size)⟩
end
end Go.Proofs.YteejjgbeknnmeaaGreatDoor
