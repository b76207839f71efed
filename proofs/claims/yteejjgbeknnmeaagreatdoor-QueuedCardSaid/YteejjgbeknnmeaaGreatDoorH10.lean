import Derived.Test.YteejjgbeknnmeaaGreatDoorH09
import Derived.Test.YteejjgbeknnmeaaGreatDoorH08
import Derived.Test.YteejjgbeknnmeaaGreatDoorH06
set_option maxRecDepth 100000
set_option maxHeartbeats 20000000
namespace Go.Proofs.YteejjgbeknnmeaaGreatDoor
open Go.RowKit
def RM.asks (K:RM) (t:Nat) (m:Ms):RM:=K.upd t (fun u=>{ u with dst:=m.dst,mw:=m.words,item:=m.item,rt:=m.rt,frm:=m.frm,win:=m.win,wait:=m.wait })
def RM.lendsTo (K:RM) (t:Nat) (b:Bool):RM:=K.upd t (fun u=>{ u with lends:=b })
noncomputable def RM.sends (K:RM) (t r:Nat) (m:Ms):RM:=
 match K.threads[r]? with
 | none=>K
 | some x=>if x.st=3/\(x.frm=-1\/x.frm=t) then ((K.deliver t r).toFirst r).goes 7 t true else if m.wait=0 then K.over t 5 else K.waits t 2 r
noncomputable def RM.ipc (K:RM) (m:Ms):Int×RM:=
 if K.cur < 0 then (2,K) else if isMs K.threads.length m=false then (3,K) else
  if m.dst < 0 then (0,(K.asks K.cur.toNat m).recv 7 K.cur.toNat true) else
   match K.threads[K.cur.toNat]? with
   | none=>(0,K)
   | some u=>
    match findQ K.passes u.sp m.dst with
    | none=>(0,(K.asks K.cur.toNat m).over K.cur.toNat 4)
    | some p=>if bits .and .i64 p.2.2.2 1=0\/p.2.2.1=K.cur then (0,(K.asks K.cur.toNat m).over K.cur.toNat 4) else (0,((K.asks K.cur.toNat m).lendsTo K.cur.toNat (bits .and .i64 p.2.2.2 2 != 0)).sends K.cur.toNat p.2.2.1.toNat m)
theorem RM.Fit.asks {K:RM}(h:K.Fit) (t:Nat) (m:Ms) (hw:m.words.length<=4) (h5:m.win<=5):(K.asks t m).Fit:=h.upd t _ (fun x hx=>by have f:=h.th t x hx;exact ⟨f.s0,f.s1,f.r0,f.r1,f.l0,f.l1,hw,f.ws,h5,f.st,f.ot⟩)
theorem RM.Fit.lendsTo {K:RM}(h:K.Fit) (t:Nat) (b:Bool):(K.lendsTo t b).Fit:=h.upd t _ (fun x hx=>by have f:=h.th t x hx;exact ⟨f.s0,f.s1,f.r0,f.r1,f.l0,f.l1,f.mw,f.ws,f.win,f.st,f.ot⟩)
theorem sending_le (ts:List Th):sending ts<=ts.length:=List.length_filter_le _ _
open Go.RowKit
def thOf (u:Int×Int×Int×Int):Th:={ sp:=u.1,row:=u.2.1,st:=1,ord:=u.2.2.1,left:=u.2.2.2,dst:=0,mw:=[],item:=0,rt:=0,frm:=0,win:=0,wait:=0,lends:=false,other:=0,turn:=0,time:=-1,code:=0,who:=-1,ws:=[],got:=-1 }
def lfOf (p:Int×Int×Int×Int):Lf:=⟨p.1,p.2.1,p.2.2.1,p.2.2.2,-1,-1⟩
def RK.up (K:RK):RM:=⟨K.threads.map thOf,K.sp,K.passes,K.leaves.map lfOf,K.fr,K.clock,-1,K.last⟩
theorem born_at {T:List (Int×Int)}:∀ (i0 i:Nat) u,(born i0 T)[i]? = some u->∃ p,T[i]? = some p/\u.1=p.1/\u.2.1=p.2/\u.2.2.2=3:=by
 induction T with
 | nil=>intro i0 i u h;simp [born] at h
 | cons p r ih=>
  intro i0 i u h
  cases i with
  | zero=>simp [born] at h;exact ⟨p,rfl,by rw [<- h],by rw [<- h],by rw [<- h]⟩
  | succ i=>
   simp [born] at h
   obtain ⟨q,h1,h2⟩:=ih _ _ _ h
   exact ⟨q,by simpa using h1,h2⟩
theorem new_fit {sp:Int}{T:List (Int×Int)}{Q L:List (Int×Int×Int×Int)}(h:Fits sp T Q L):(RK.new sp T Q L).up.Fit:=by
 obtain ⟨⟨s1,s2⟩,⟨t1,t2⟩,ot,oq,aq,ol,al⟩:=h
 have hl:(RK.new sp T Q L).up.threads.length=T.length:=by simp [RK.up,RK.new,born_length]
 refine ⟨by omega,by omega,s1,s2,fun i t ht=>?_,?_,⟨fun _ _=>0,fun l hl=>?_⟩,fun l hl=>?_⟩
 ·have ht2:((born 0 T).map thOf)[i]? = some t:=ht
  rw [List.getElem?_map] at ht2
  rcases hx:(born 0 T)[i]? with _ | u
  ·rw [hx] at ht2;simp at ht2
  ·rw [hx] at ht2
   simp at ht2
   obtain ⟨p,hp,e1,e2,e3⟩:=born_at 0 i u hx
   have:=ot i p hp
   rw [<- ht2]
   unfold okT at this
   exact ⟨by show 0<=u.1;omega,by show u.1<=sp-1;omega,by show 0<=u.2.1;omega,by show u.2.1<=3;omega,by show 1<=u.2.2.2;omega,by show u.2.2.2<=3;omega,by simp [thOf],by simp [thOf],by simp [thOf],.inl rfl,fun g=>by simp [thOf] at g⟩
 ·show (L.map lfOf).Pairwise _
  rw [List.pairwise_map]
  exact (apart_iff L).1 al
 ·obtain ⟨p,hp,rfl⟩:=List.mem_map.1 (show l∈L.map lfOf from hl)
  obtain ⟨i,hi⟩:=List.getElem?_of_mem hp
  exact ⟨(ol i p hi).1,.inl ⟨rfl,rfl⟩⟩
 ·obtain ⟨p,hp,rfl⟩:=List.mem_map.1 (show l∈L.map lfOf from hl)
  obtain ⟨i,hi⟩:=List.getElem?_of_mem hp
  exact ⟨(ol i p hi).2.1,(ol i p hi).2.2.1,(ol i p hi).2.2.2.1⟩
theorem RM.Fit.recv {K:RM}(h:K.Fit):∀ (n:Nat) (t:Nat) (stands:Bool),(K.recv n t stands).Fit:=by
 intro n
 induction n generalizing K with
 | zero=>intro t stands;exact h
 | succ n ih=>
  intro t stands
  simp only [RM.recv]
  split
  ·exact h
  ·split
   ·split
    ·exact h.waits t 3 (-1) (.inr rfl) (fun g=>by simp at g)
    ·split
     ·exact h.over t 5
     ·exact (h.over t 5).toLast t
   ·split
    ·exact h.heard _ _ _
    ·split
     ·exact ih (h.heard _ _ _) _ _
     ·split
      ·exact (h.heard _ _ _).over _ _
      ·exact ((h.heard _ _ _).over _ _).toLast _
theorem RM.Fit.goes {K:RM}(h:K.Fit) (n s:Nat) (stands:Bool):(K.goes n s stands).Fit:=by
 unfold RM.goes
 split
 ·exact h
 ·split
  ·exact h.recv n s stands
  ·split
   ·exact h.over s 0
   ·exact (h.over s 0).toLast s
theorem RM.Fit.spent {K:RM}(h:K.Fit):K.spent.Fit:=by
 unfold RM.spent
 split
 ·exact h
 ·rename_i u hu
  have f:=h.th _ u hu
  split
  ·exact h
  ·split
   ·exact (h.setLeft _ 3 (by omega) (by omega)).toLast _
   ·exact h.setLeft _ _ (by have:=f.l0;omega) (by have:=f.l1;omega)
theorem RM.Fit.tick {K:RM}(h:K.Fit):K.tick.Fit:=(h.nums _ _ _).spent.tickTo _
theorem RM.Fit.yield {K:RM}(h:K.Fit):K.yield.2.Fit:=by
 unfold RM.yield
 split
 ·exact h
 ·exact (h.setLeft _ 3 (by omega) (by omega)).toLast _
theorem RM.Fit.stored {K:RM}(h:K.Fit) (pg ce n:Int):(K.stored pg ce n).Fit:=by
 unfold RM.stored
 split
 ·exact ⟨h.one,h.six,h.sp1,h.sp3,h.th,h.ap,h.kin,h.lf⟩
 ·exact h
open Go.RowKit
structure Clo (P:Nat->RM->Prop):Prop where
 mono:∀ b c K,b<=c->P b K->P c K
 over:∀ b K t e,P b K->P b (K.over t e)
 toFirst:∀ b K t,P b K->P (b+1) (K.toFirst t)
 toLast:∀ b K t,P b K->P (b+1) (K.toLast t)
 waits:∀ b K t st o,P b K->(st=2\/st=3)->P (b+1) (K.waits t st o)
 deliver:∀ b K s r,P b K->P b (K.deliver s r)
 asks:∀ b K t m,P b K->P b (K.asks t m)
 lendsTo:∀ b K t x,P b K->P b (K.lendsTo t x)
 setLeft:∀ b K t n,P b K->P b (K.setLeft t n)
section
variable {P:Nat->RM->Prop}(C:Clo P)
include C
theorem Clo.heard {b:Nat}{K:RM}(s t:Nat) (stands:Bool) (h:P b K):P (b+1) (K.heard s t stands):=by
 unfold RM.heard
 split
 ·exact C.mono _ _ _ (by omega) (C.deliver _ _ _ _ h)
 ·exact C.toFirst _ _ _ (C.deliver _ _ _ _ h)
theorem Clo.recv:∀ (n b:Nat) (K:RM) (t:Nat) (stands:Bool),P b K->P (b+n+1) (K.recv n t stands):=by
 intro n
 induction n with
 | zero=>intro b K t stands h;exact C.mono _ _ _ (by omega) h
 | succ n ih=>
  intro b K t stands h
  simp only [RM.recv]
  split
  ·exact C.mono _ _ _ (by omega) h
  ·split
   ·split
    ·exact C.mono _ _ _ (by omega) (C.waits _ _ _ _ _ h (.inr rfl))
    ·split
     ·exact C.mono _ _ _ (by omega) (C.over _ _ _ _ h)
     ·exact C.mono _ _ _ (by omega) (C.toLast _ _ _ (C.over _ _ _ _ h))
   ·split
    ·exact C.mono _ _ _ (by omega) (C.heard _ _ _ h)
    ·split
     ·exact C.mono _ _ _ (by omega) (ih _ _ _ _ (C.heard _ _ _ h))
     ·split
      ·exact C.mono _ _ _ (by omega) (C.over _ _ _ _ (C.heard _ _ _ h))
      ·exact C.mono _ _ _ (by omega) (C.toLast _ _ _ (C.over _ _ _ _ (C.heard _ _ _ h)))
theorem Clo.goes {b:Nat}{K:RM}(n s:Nat) (stands:Bool) (h:P b K):P (b+n+1) (K.goes n s stands):=by
 unfold RM.goes
 split
 ·exact C.mono _ _ _ (by omega) h
 ·split
  ·exact C.recv _ _ _ _ _ h
  ·split
   ·exact C.mono _ _ _ (by omega) (C.over _ _ _ _ h)
   ·exact C.mono _ _ _ (by omega) (C.toLast _ _ _ (C.over _ _ _ _ h))
theorem Clo.sends {b:Nat}{K:RM}(t r:Nat) (m:Ms) (h:P b K):P (b+9) (K.sends t r m):=by
 unfold RM.sends
 split
 ·exact C.mono _ _ _ (by omega) h
 ·split
  ·exact C.goes 7 _ _ (C.toFirst _ _ _ (C.deliver _ _ _ _ h))
  ·split
   ·exact C.mono _ _ _ (by omega) (C.over _ _ _ _ h)
   ·exact C.mono _ _ _ (by omega) (C.waits _ _ _ _ _ h (.inl rfl))
theorem Clo.ipc {b:Nat}{K:RM}(m:Ms) (h:P b K):P (b+9) (K.ipc m).2:=by
 unfold RM.ipc
 have ho:=C.over _ _ K.cur.toNat 4 (C.asks _ _ K.cur.toNat m h)
 split
 ·exact C.mono _ _ _ (by omega) h
 ·split
  ·exact C.mono _ _ _ (by omega) h
  ·split
   ·exact C.mono _ _ _ (by omega) (C.recv 7 _ _ _ _ (C.asks _ _ _ m h))
   ·split
    ·exact C.mono _ _ _ (by omega) h
    ·split
     ·exact C.mono _ _ _ (by omega) ho
     ·split
      ·exact C.mono _ _ _ (by omega) ho
      ·exact C.sends _ _ _ (C.lendsTo _ _ _ _ (C.asks _ _ _ m h))
theorem Clo.tickTo {b:Nat}{K:RM}(h:P b K):∀ i,P (b+i) (K.tickTo i)
 | 0=>h
 | i+1=>by
  have ih:=Clo.tickTo h i
  simp only [RM.tickTo]
  split
  ·exact C.mono _ _ _ (by omega) ih
  ·split
   ·exact C.toLast _ _ _ (C.over _ _ _ _ ih)
   ·exact C.mono _ _ _ (by omega) ih
theorem Clo.spent {b:Nat}{K:RM}(h:P b K):P (b+1) K.spent:=by
 unfold RM.spent
 split
 ·exact C.mono _ _ _ (by omega) h
 ·split
  ·exact C.mono _ _ _ (by omega) h
  ·split
   ·exact C.toLast _ _ _ (C.setLeft _ _ _ _ h)
   ·exact C.mono _ _ _ (by omega) (C.setLeft _ _ _ _ h)
theorem Clo.yield {b:Nat}{K:RM}(h:P b K):P (b+1) K.yield.2:=by
 unfold RM.yield
 split
 ·exact C.mono _ _ _ (by omega) h
 ·exact C.toLast _ _ _ (C.setLeft _ _ _ _ h)
end
structure RM.Num (b:Nat) (K:RM):Prop where
 f0:-(b:Int)<=K.first
 f1:K.first<=-1
 a0:0<=K.last
 a1:K.last<=b
 o0:∀ (i:Nat) u,K.threads[i]? = some u->K.first < u.ord/\u.ord < K.last
 o1:∀ (i j:Nat) u v,K.threads[i]? = some u->K.threads[j]? = some v->u.ord=v.ord->i=j
 t0:∀ (i:Nat) u,K.threads[i]? = some u->u.st≠1->K.first < u.turn/\u.turn < K.last
 t1:∀ (i j:Nat) u v,K.threads[i]? = some u->K.threads[j]? = some v->u.st≠1->v.st≠1->u.turn=v.turn->i=j
theorem upd_get {K:RM}{r:Nat}{f:Th->Th}{i:Nat}{t:Th}(h:(K.upd r f).threads[i]? = some t):∃ x,K.threads[i]? = some x/\((i=r/\t=f x)\/(i≠r/\t=x)):=by
 have ht2:(K.threads.modify r f)[i]? = some t:=h
 rw [List.getElem?_modify] at ht2
 rcases hx:K.threads[i]? with _ | x
 ·rw [hx] at ht2;simp at ht2
 ·rw [hx] at ht2
  refine ⟨x,rfl,?_⟩
  by_cases e:r=i
  ·subst e
   simp at ht2
   exact .inl ⟨rfl,ht2.symm⟩
  ·simp [e] at ht2
   exact .inr ⟨fun g=>e g.symm,ht2.symm⟩
theorem RM.Num.upd {b:Nat}{K:RM}(h:K.Num b) (r:Nat) (f:Th->Th) (ho:∀ u,(f u).ord=u.ord) (hs:∀ u,(f u).st=1\/((f u).st=u.st/\(f u).turn=u.turn)):(K.upd r f).Num b:=by
 refine ⟨h.f0,h.f1,h.a0,h.a1,fun i u hu=>?_,fun i j u v hu hv e=>?_,fun i u hu hs1=>?_,fun i j u v hu hv s1 s2 e=>?_⟩
 ·obtain ⟨x,hx,⟨_,rfl⟩ | ⟨_,rfl⟩⟩:=upd_get hu
  ·rw [ho];exact h.o0 i x hx
  ·exact h.o0 i u hx
 ·obtain ⟨x,hx,c1⟩:=upd_get hu
  obtain ⟨z,hz,c2⟩:=upd_get hv
  have e1:u.ord=x.ord:=by rcases c1 with ⟨_,rfl⟩ | ⟨_,rfl⟩;exact ho x;rfl
  have e2:v.ord=z.ord:=by rcases c2 with ⟨_,rfl⟩ | ⟨_,rfl⟩;exact ho z;rfl
  exact h.o1 i j x z hx hz (by rw [<- e1,<- e2,e])
 ·obtain ⟨x,hx,⟨_,rfl⟩ | ⟨_,rfl⟩⟩:=upd_get hu
  ·rcases hs x with g | ⟨g1,g2⟩
   ·exact absurd g hs1
   ·rw [g2];exact h.t0 i x hx (by rw [<- g1];exact hs1)
  ·exact h.t0 i u hx hs1
 ·obtain ⟨x,hx,c1⟩:=upd_get hu
  obtain ⟨z,hz,c2⟩:=upd_get hv
  have e1:u.turn=x.turn/\x.st≠1:=by
   rcases c1 with ⟨_,rfl⟩ | ⟨_,rfl⟩
   ·rcases hs x with g | ⟨g1,g2⟩
    ·exact absurd g s1
    ·exact ⟨g2,by rw [<- g1];exact s1⟩
   ·exact ⟨rfl,s1⟩
  have e2:v.turn=z.turn/\z.st≠1:=by
   rcases c2 with ⟨_,rfl⟩ | ⟨_,rfl⟩
   ·rcases hs z with g | ⟨g1,g2⟩
    ·exact absurd g s2
    ·exact ⟨g2,by rw [<- g1];exact s2⟩
   ·exact ⟨rfl,s2⟩
  exact h.t1 i j x z hx hz e1.2 e2.2 (by rw [<- e1.1,<- e2.1,e])
theorem RM.Num.same {b:Nat}{K K':RM}(h:K.Num b) (ht:K'.threads=K.threads) (hf:K'.first=K.first) (hl:K'.last=K.last):K'.Num b:=
 ⟨hf ▸ h.f0,hf ▸ h.f1,hl ▸ h.a0,hl ▸ h.a1,by rw [ht,hf,hl];exact h.o0,by rw [ht];exact h.o1,by rw [ht,hf,hl];exact h.t0,by rw [ht];exact h.t1⟩
theorem num_clo:Clo (fun b K=>K.Num b):=by
 refine ⟨fun b c K hb h=>⟨by have:=h.f0;omega,h.f1,h.a0,by have:=h.a1;omega,h.o0,h.o1,h.t0,h.t1⟩,fun b K t e h=>h.upd t _ (fun _=>rfl) (fun _=>.inl rfl),fun b K t h=>?_,fun b K t h=>?_,fun b K t st o h hst=>?_,fun b K s r h=>?_,fun b K t m h=>h.upd t _ (fun _=>rfl) (fun _=>.inr ⟨rfl,rfl⟩),fun b K t m h=>h.upd t _ (fun _=>rfl) (fun _=>.inr ⟨rfl,rfl⟩),fun b K t m h=>h.upd t _ (fun _=>rfl) (fun _=>.inr ⟨rfl,rfl⟩)⟩
 ·have hf0:=h.f0
  have hf1:=h.f1
  have ha0:=h.a0
  have ha1:=h.a1
  refine ⟨by show _<=K.first-1;omega,by show K.first-1<=_;omega,h.a0,by show K.last<=_;omega,fun i u hu=>?_,fun i j u v hu hv e=>?_,fun i u hu hs1=>?_,fun i j u v hu hv s1 s2 e=>?_⟩
  ·obtain ⟨x,hx,⟨_,rfl⟩ | ⟨_,rfl⟩⟩:=upd_get (K:=K) hu
   ·show K.first-1 < K.first/\K.first < K.last;omega
   ·have:=h.o0 i u hx;show K.first-1 < u.ord/\u.ord < K.last;omega
  ·obtain ⟨x,hx,c1⟩:=upd_get (K:=K) hu
   obtain ⟨z,hz,c2⟩:=upd_get (K:=K) hv
   have g1:=h.o0 i x hx
   have g2:=h.o0 j z hz
   rcases c1 with ⟨i1,rfl⟩ | ⟨i1,rfl⟩ <;> rcases c2 with ⟨i2,rfl⟩ | ⟨i2,rfl⟩
   ·omega
   ·dsimp only at e;omega
   ·dsimp only at e;omega
   ·exact h.o1 i j u v hx hz e
  ·obtain ⟨x,hx,⟨_,rfl⟩ | ⟨_,rfl⟩⟩:=upd_get (K:=K) hu
   ·have:=h.t0 i x hx hs1;show K.first-1 < x.turn/\x.turn < K.last;omega
   ·have:=h.t0 i u hx hs1;show K.first-1 < u.turn/\u.turn < K.last;omega
  ·obtain ⟨x,hx,c1⟩:=upd_get (K:=K) hu
   obtain ⟨z,hz,c2⟩:=upd_get (K:=K) hv
   have e1:u.turn=x.turn/\x.st≠1:=by rcases c1 with ⟨_,rfl⟩ | ⟨_,rfl⟩ <;> exact ⟨rfl,s1⟩
   have e2:v.turn=z.turn/\z.st≠1:=by rcases c2 with ⟨_,rfl⟩ | ⟨_,rfl⟩ <;> exact ⟨rfl,s2⟩
   exact h.t1 i j x z hx hz e1.2 e2.2 (by rw [<- e1.1,<- e2.1,e])
 ·have hf0:=h.f0
  have hf1:=h.f1
  have ha0:=h.a0
  have ha1:=h.a1
  refine ⟨by show _<=K.first;omega,h.f1,by show 0<=K.last+1;omega,by show K.last+1<=_;omega,fun i u hu=>?_,fun i j u v hu hv e=>?_,fun i u hu hs1=>?_,fun i j u v hu hv s1 s2 e=>?_⟩
  ·obtain ⟨x,hx,⟨_,rfl⟩ | ⟨_,rfl⟩⟩:=upd_get (K:=K) hu
   ·show K.first < K.last/\K.last < K.last+1;omega
   ·have:=h.o0 i u hx;show K.first < u.ord/\u.ord < K.last+1;omega
  ·obtain ⟨x,hx,c1⟩:=upd_get (K:=K) hu
   obtain ⟨z,hz,c2⟩:=upd_get (K:=K) hv
   have g1:=h.o0 i x hx
   have g2:=h.o0 j z hz
   rcases c1 with ⟨i1,rfl⟩ | ⟨i1,rfl⟩ <;> rcases c2 with ⟨i2,rfl⟩ | ⟨i2,rfl⟩
   ·omega
   ·dsimp only at e;omega
   ·dsimp only at e;omega
   ·exact h.o1 i j u v hx hz e
  ·obtain ⟨x,hx,⟨_,rfl⟩ | ⟨_,rfl⟩⟩:=upd_get (K:=K) hu
   ·have:=h.t0 i x hx hs1;show K.first < x.turn/\x.turn < K.last+1;omega
   ·have:=h.t0 i u hx hs1;show K.first < u.turn/\u.turn < K.last+1;omega
  ·obtain ⟨x,hx,c1⟩:=upd_get (K:=K) hu
   obtain ⟨z,hz,c2⟩:=upd_get (K:=K) hv
   have e1:u.turn=x.turn/\x.st≠1:=by rcases c1 with ⟨_,rfl⟩ | ⟨_,rfl⟩ <;> exact ⟨rfl,s1⟩
   have e2:v.turn=z.turn/\z.st≠1:=by rcases c2 with ⟨_,rfl⟩ | ⟨_,rfl⟩ <;> exact ⟨rfl,s2⟩
   exact h.t1 i j x z hx hz e1.2 e2.2 (by rw [<- e1.1,<- e2.1,e])
 ·have hf0:=h.f0
  have hf1:=h.f1
  have ha0:=h.a0
  have ha1:=h.a1
  refine ⟨by show _<=K.first;omega,h.f1,by show 0<=K.last+1;omega,by show K.last+1<=_;omega,fun i u hu=>?_,fun i j u v hu hv e=>?_,fun i u hu hs1=>?_,fun i j u v hu hv s1 s2 e=>?_⟩
  ·obtain ⟨x,hx,⟨_,rfl⟩ | ⟨_,rfl⟩⟩:=upd_get (K:=K) hu
   ·have:=h.o0 i x hx;show K.first < x.ord/\x.ord < K.last+1;omega
   ·have:=h.o0 i u hx;show K.first < u.ord/\u.ord < K.last+1;omega
  ·obtain ⟨x,hx,c1⟩:=upd_get (K:=K) hu
   obtain ⟨z,hz,c2⟩:=upd_get (K:=K) hv
   have e1:u.ord=x.ord:=by rcases c1 with ⟨_,rfl⟩ | ⟨_,rfl⟩ <;> rfl
   have e2:v.ord=z.ord:=by rcases c2 with ⟨_,rfl⟩ | ⟨_,rfl⟩ <;> rfl
   exact h.o1 i j x z hx hz (by rw [<- e1,<- e2,e])
  ·obtain ⟨x,hx,⟨_,rfl⟩ | ⟨_,rfl⟩⟩:=upd_get (K:=K) hu
   ·show K.first < K.last/\K.last < K.last+1;omega
   ·have:=h.t0 i u hx hs1;show K.first < u.turn/\u.turn < K.last+1;omega
  ·obtain ⟨x,hx,c1⟩:=upd_get (K:=K) hu
   obtain ⟨z,hz,c2⟩:=upd_get (K:=K) hv
   rcases c1 with ⟨i1,rfl⟩ | ⟨i1,rfl⟩ <;> rcases c2 with ⟨i2,rfl⟩ | ⟨i2,rfl⟩
   ·omega
   ·have g2:=h.t0 j v hz s2;dsimp only at e;omega
   ·have g1:=h.t0 i u hx s1;dsimp only at e;omega
   ·exact h.t1 i j u v hx hz s1 s2 e
 ·unfold RM.deliver
  split
  ·rename_i a x _ _
   exact (h.upd r (fun u=>{ u with st:=1,time:=-1,code:=0,who:=s,ws:=a.mw,got:=(lendL K.leaves a x).2 }) (fun _=>rfl) (fun _=>.inl rfl)).same rfl rfl rfl
  ·exact h
theorem Clo.tick {P:Nat->RM->Prop}(C:Clo P){b:Nat}{K:RM}(h:P b K.ticked):P (b+1+K.threads.length) K.tick:=C.tickTo (C.spent h) _
theorem RM.Num.tick {b:Nat}{K:RM}(h:K.Num b) (h6:K.threads.length<=6):K.tick.Num (b+7):=num_clo.mono _ _ _ (by omega) (num_clo.tick (b:=b) (K:=K) (h.same rfl rfl rfl))
structure Same (K K':RM):Prop where
 len:K'.threads.length=K.threads.length
 sp:K'.sp=K.sp
 ps:K'.passes=K.passes
 fr:K'.fr=K.fr
 cl:K'.clock=K.clock
 hm:∀ (i:Nat) u,K'.threads[i]? = some u->∃ x,K.threads[i]? = some x/\u.sp=x.sp/\u.row=x.row
theorem Same.refl (K:RM):Same K K:=⟨rfl,rfl,rfl,rfl,rfl,fun _ u h=>⟨u,h,rfl,rfl⟩⟩
theorem Same.upd {K0 K K':RM}(h:Same K0 K){r:Nat}{f:Th->Th}(ht:K'.threads=K.threads.modify r f) (h1:K'.sp=K.sp) (h2:K'.passes=K.passes) (h3:K'.fr=K.fr) (h4:K'.clock=K.clock) (hf:∀ u,(f u).sp=u.sp/\(f u).row=u.row):Same K0 K':=by
 refine ⟨by rw [ht];simp [h.len],h1.trans h.sp,h2.trans h.ps,h3.trans h.fr,h4.trans h.cl,fun i u hu=>?_⟩
 rw [ht] at hu
 obtain ⟨x,hx,c⟩:=upd_get (K:=K) (f:=f) hu
 obtain ⟨z,hz,e1,e2⟩:=h.hm i x hx
 refine ⟨z,hz,?_⟩
 rcases c with ⟨_,rfl⟩ | ⟨_,rfl⟩
 ·rw [(hf x).1,(hf x).2];exact ⟨e1,e2⟩
 ·exact ⟨e1,e2⟩
theorem same_clo (K0:RM):Clo (fun _ K=>Same K0 K):=by
 refine ⟨fun _ _ _ _ h=>h,fun b K t e h=>h.upd rfl rfl rfl rfl rfl (by intro u;exact ⟨rfl,rfl⟩),fun b K t h=>h.upd rfl rfl rfl rfl rfl (by intro u;exact ⟨rfl,rfl⟩),fun b K t h=>h.upd rfl rfl rfl rfl rfl (by intro u;exact ⟨rfl,rfl⟩),fun b K t st o h _=>h.upd rfl rfl rfl rfl rfl (by intro u;exact ⟨rfl,rfl⟩),fun b K s r h=>?_,fun b K t m h=>h.upd rfl rfl rfl rfl rfl (by intro u;exact ⟨rfl,rfl⟩),fun b K t m h=>h.upd rfl rfl rfl rfl rfl (by intro u;exact ⟨rfl,rfl⟩),fun b K t m h=>h.upd rfl rfl rfl rfl rfl (by intro u;exact ⟨rfl,rfl⟩)⟩
 unfold RM.deliver
 split
 ·exact h.upd rfl rfl rfl rfl rfl (by intro u;exact ⟨rfl,rfl⟩)
 ·exact h
theorem and3 {r a:Int}(h1:1<=r) (h3:r<=3) (hz:¬ bits .and .i64 r a=0):1<=bits .and .i64 r a/\bits .and .i64 r a<=3:=by
 have hn:(BitVec.ofInt 64 r &&& BitVec.ofInt 64 a).toNat<=3:=by
  rw [BitVec.toNat_and]
  refine Nat.le_trans Nat.and_le_left ?_
  have:r=1\/r=2\/r=3:=by omega
  rcases this with rfl | rfl | rfl <;> decide
 have hb:bits .and .i64 r a=IntKind.i64.wrap ((BitVec.ofInt 64 r &&& BitVec.ofInt 64 a).toNat:Int):=rfl
 generalize (BitVec.ofInt 64 r &&& BitVec.ofInt 64 a).toNat=n at hb hn
 have hw:IntKind.i64.wrap (n:Int)=n:=by
  have:n=0\/n=1\/n=2\/n=3:=by omega
  rcases this with rfl | rfl | rfl | rfl <;> rfl
 rw [hb,hw] at hz ⊢
 omega
def okLf (l:Lf):Prop:=0<=l.fr/\l.fr<=7/\1<=l.rt/\l.rt<=3
theorem lend_ok {L:List Lf}(h:∀ l∈L,okLf l) (a b:Th):∀ l∈(lendL L a b).1,okLf l:=by
 have hg:∀ l∈goneL L b.sp b.win true,okLf l:=fun l hl=>h l (mem_gone.1 hl).1
 unfold lendL
 split
 ·exact h
 ·split
  ·exact hg
  ·rename_i l hl
   have hm:=hg l (List.mem_of_find?_eq_some hl)
   split
   ·exact hg
   ·rename_i hz
    intro q hq
    rcases List.mem_append.1 hq with hq | hq
    ·exact hg q hq
    ·rw [List.mem_singleton] at hq
     rw [hq]
     refine ⟨hm.1,hm.2.1,?_⟩
     exact and3 hm.2.2.1 hm.2.2.2 hz
theorem leaf_clo:Clo (fun _ K=>∀ l∈K.leaves,okLf l):=by
 refine ⟨fun _ _ _ _ h=>h,fun b K t e h=>h,fun b K t h=>h,fun b K t h=>h,fun b K t st o h _=>h,fun b K s r h=>?_,fun b K t m h=>h,fun b K t m h=>h,fun b K t m h=>h⟩
 unfold RM.deliver
 split
 ·exact lend_ok h _ _
 ·exact h
open Go.RowKit
structure RM.Ok (K:RM) (n:Nat):Prop where
 ft:K.Fit
 nm:K.Num (16*n+16)
 ap:Apart K.passes
 oq:∀ (i:Nat) p,K.passes[i]? = some p->okQ K.sp ((K.threads.length:Int)-1) p
 lf:∀ l∈K.leaves,okLf l
 c0:0<=K.clock
 c1:K.clock<=n
theorem RM.Ok.mono {K:RM}{n m:Nat}(h:K.Ok n) (hm:n<=m):K.Ok m:=⟨h.ft,num_clo.mono _ _ _ (by omega) h.nm,h.ap,h.oq,h.lf,h.c0,by have:=h.c1;omega⟩
theorem RM.Ok.step {K K':RM}{n:Nat}(h:K.Ok n) (ft:K'.Fit) (nm:K'.Num (16*n+16+16)) (sa:Same K K') (lf:∀ l∈K'.leaves,okLf l):K'.Ok (n+1):=
 ⟨ft,num_clo.mono _ _ _ (by omega) nm,by rw [sa.ps];exact h.ap,by rw [sa.ps,sa.sp,sa.len];exact h.oq,lf,by rw [sa.cl];exact h.c0,by rw [sa.cl];have:=h.c1;omega⟩
theorem RM.cur_in (K:RM) (h:¬ K.cur < 0):∃ (j:Nat) (u:Th),K.cur=j/\K.threads[j]? = some u/\u.st=1:=by
 rcases curM_inv K.threads K.threads.length (Nat.le_refl _) with e | ⟨j,u,e,_,hu,hs⟩
 ·exact absurd (show K.cur < 0 by unfold RM.cur;omega) h
 ·exact ⟨j,u,e,hu,hs⟩
theorem RM.Fit.sends {K:RM}(h:K.Fit) (t r:Nat) (m:Ms) (hn:(r:Int)≠t):(K.sends t r m).Fit:=by
 unfold RM.sends
 split
 ·exact h
 ·split
  ·exact ((h.deliver _ _).toFirst _).goes _ _ _
  ·split
   ·exact h.over _ _
   ·exact h.waits t 2 r (.inl rfl) (fun _=>hn)
theorem RM.Fit.ipc {K:RM}(h:K.Fit) (m:Ms) (hq:∀ (i:Nat) p,K.passes[i]? = some p->0<=p.2.2.1):(K.ipc m).2.Fit:=by
 unfold RM.ipc
 split
 ·exact h
 ·rename_i hc
  split
  ·exact h
  ·rename_i hm
   have hm2:isMs K.threads.length m=true:=by simpa using hm
   have hw:m.words.length<=4:=by simp [isMs] at hm2;omega
   have h5:m.win<=5:=by simp [isMs,inI] at hm2;omega
   have ha:=h.asks K.cur.toNat m hw h5
   split
   ·exact ha.recv _ _ _
   ·split
    ·exact h
    ·split
     ·exact ha.over _ _
     ·rename_i p hp
      have hp0:0<=p.2.2.1:=by
       obtain ⟨i,hi⟩:=List.getElem?_of_mem (List.mem_of_find?_eq_some (show List.find? _ K.passes=some p from hp))
       exact hq i p hi
      split
      ·exact ha.over _ _
      ·rename_i hne
       exact (ha.lendsTo _ _).sends _ _ _ (by omega)
theorem RM.Ok.ipc {K:RM}{n:Nat}(h:K.Ok n) (m:Ms):(K.ipc m).2.Ok (n+1):=
 h.step (h.ft.ipc m (fun i p hp=>(h.oq i p hp).2.2.2.2.1)) (num_clo.mono _ _ _ (by omega) (num_clo.ipc m h.nm)) ((same_clo K).ipc (b:=0) m (Same.refl K)) (leaf_clo.ipc (b:=0) m h.lf)
theorem RM.Ok.yield {K:RM}{n:Nat}(h:K.Ok n):K.yield.2.Ok (n+1):=
 h.step h.ft.yield (num_clo.mono _ _ _ (by omega) (num_clo.yield h.nm)) ((same_clo K).yield (b:=0) (Same.refl K)) (leaf_clo.yield (b:=0) h.lf)
theorem RM.Ok.tick {K:RM}{n:Nat}(h:K.Ok n):K.tick.Ok (n+1):=by
 have sa:Same K.ticked K.tick:=(same_clo K.ticked).tick (b:=0) (Same.refl _)
 refine ⟨h.ft.tick,num_clo.mono _ _ _ (by omega) (h.nm.tick h.ft.six),by rw [sa.ps];exact h.ap,by rw [sa.ps,sa.sp,sa.len];exact h.oq,leaf_clo.tick (b:=0) (K:=K) h.lf,by rw [sa.cl];have:=h.c0;show 0<=K.clock+1;omega,by rw [sa.cl];have:=h.c1;show K.clock+1<=_;omega⟩
theorem RM.Ok.stored {K:RM}{n:Nat}(h:K.Ok n) (pg ce v:Int):(K.stored pg ce v).Ok (n+1):=by
 refine RM.Ok.mono (n:=n) ⟨h.ft.stored pg ce v,?_,?_,?_,?_,?_,?_⟩ (by omega)
 all_goals unfold RM.stored
 all_goals split
 ·exact h.nm.same rfl rfl rfl
 ·exact h.nm
 ·exact h.ap
 ·exact h.ap
 ·exact h.oq
 ·exact h.oq
 ·exact h.lf
 ·exact h.lf
 ·exact h.c0
 ·exact h.c0
 ·exact h.c1
 ·exact h.c1
theorem born_ord {T:List (Int×Int)}:∀ (i0 i:Nat) u,(born i0 T)[i]? = some u->u.2.2.1=((i0+i:Nat):Int):=by
 induction T with
 | nil=>intro i0 i u h;simp [born] at h
 | cons p r ih=>
  intro i0 i u h
  cases i with
  | zero=>simp [born] at h;rw [<- h];rfl
  | succ i=>
   simp [born] at h
   rw [ih _ _ _ h]
   omega
theorem new_okM {sp:Int}{T:List (Int×Int)}{Q L:List (Int×Int×Int×Int)}(h:Fits sp T Q L) (n:Nat):(RK.new sp T Q L).up.Ok n:=by
 have hf:=new_fit h
 obtain ⟨⟨s1,s2⟩,⟨t1,t2⟩,ot,oq,aq,ol,al⟩:=h
 have hl:(RK.new sp T Q L).up.threads.length=T.length:=by simp [RK.up,RK.new,born_length]
 have ho:∀ (i:Nat) u,(RK.new sp T Q L).up.threads[i]? = some u->u.ord=i/\u.st=1/\i < T.length:=by
  intro i u hu
  have hi:i < T.length:=by rw [<- hl];exact (List.getElem?_eq_some_iff.1 hu).1
  have hu2:((born 0 T).map thOf)[i]? = some u:=hu
  rw [List.getElem?_map] at hu2
  rcases hb:(born 0 T)[i]? with _ | x
  ·rw [hb] at hu2;cases hu2
  ·rw [hb] at hu2
   cases hu2
   have:=born_ord 0 i x hb
   exact ⟨by show x.2.2.1=_;rw [this];simp,rfl,hi⟩
 refine RM.Ok.mono (n:=0) ⟨hf,⟨by show _<=(-1:Int);omega,by show (-1:Int)<=-1;omega,by show (0:Int)<=(T.length:Int);omega,by show (T.length:Int)<=_;omega,fun i u hu=>?_,fun i j u v hu hv e=>?_,fun i u hu hs=>absurd (ho i u hu).2.1 hs,fun i j u v hu hv s1 s2 e=>absurd (ho i u hu).2.1 s1⟩,aq,?_,?_,by show (0:Int)<=0;omega,by show (0:Int)<=_;omega⟩ (by omega)
 ·have:=ho i u hu
  show (-1:Int) < u.ord/\u.ord < (T.length:Int)
  omega
 ·have h1:=ho i u hu
  have h2:=ho j v hv
  omega
 ·rw [hl];exact oq
 ·intro l hl
  obtain ⟨p,hp,rfl⟩:=List.mem_map.1 (show l∈L.map lfOf from hl)
  obtain ⟨i,hi⟩:=List.getElem?_of_mem hp
  have:=ol i p hi
  exact ⟨this.2.2.2.2.1,this.2.2.2.2.2.1,this.2.2.2.2.2.2.1,this.2.2.2.2.2.2.2⟩
open Go.RowKit
structure Sd (key:Nat->Int) (P:Nat->Prop) (l:List Nat):Prop where
 mem:∀ t,t∈l↔P t
 srt:l.Pairwise (fun a b=>key a < key b)
section
variable {key key':Nat->Int}{P P':Nat->Prop}{l:List Nat}
theorem Sd.nodup (h:Sd key P l):l.Nodup:=h.srt.imp (fun h e=>by rw [e] at h;omega)
theorem Sd.congr (h:Sd key P l) (hp:∀ t,P t↔P' t) (hk:∀ t,P t->key' t=key t):Sd key' P' l:=
 ⟨fun t=>(h.mem t).trans (hp t),h.srt.imp_of_mem (fun {a b} ha hb hab=>by rw [hk a ((h.mem a).1 ha),hk b ((h.mem b).1 hb)];exact hab)⟩
theorem Sd.erase (h:Sd key P l) (t:Nat) (hp:∀ i,P' i↔P i/\i≠t) (hk:∀ i,P i->i≠t->key' i=key i):Sd key' P' (l.erase t):=by
 have h1:Sd key (fun i=>P i/\i≠t) (l.erase t):=⟨fun i=>by rw [h.nodup.mem_erase_iff,h.mem];exact and_comm,h.srt.sublist List.erase_sublist⟩
 exact h1.congr (fun i=>(hp i).symm) (fun i hi=>hk i hi.1 hi.2)
theorem Sd.comeLast (h:Sd key P l) (t:Nat) (hp:∀ i,P' i↔(P i/\i≠t)\/i=t) (hk:∀ i,P i->i≠t->key' i=key i/\key i < key' t):Sd key' P' (l.erase t ++ [t]):=by
 have h1:Sd key' (fun i=>P i/\i≠t) (l.erase t):=h.erase t (fun _=>Iff.rfl) (fun i hi hn=>(hk i hi hn).1)
 refine ⟨fun i=>?_,List.pairwise_append.2 ⟨h1.srt,by simp,fun a ha b hb=>?_⟩⟩
 ·rw [List.mem_append,h1.mem,List.mem_singleton,hp]
 ·rw [List.mem_singleton] at hb
  subst hb
  have h2:=(h1.mem a).1 ha
  have:=hk a h2.1 h2.2
  omega
theorem Sd.comeFirst (h:Sd key P l) (t:Nat) (hp:∀ i,P' i↔(P i/\i≠t)\/i=t) (hk:∀ i,P i->i≠t->key' i=key i/\key' t < key i):Sd key' P' (t :: l.erase t):=by
 have h1:Sd key' (fun i=>P i/\i≠t) (l.erase t):=h.erase t (fun _=>Iff.rfl) (fun i hi hn=>(hk i hi hn).1)
 refine ⟨fun i=>?_,List.pairwise_cons.2 ⟨fun b hb=>?_,h1.srt⟩⟩
 ·rw [List.mem_cons,h1.mem,hp];exact or_comm
 ·have h2:=(h1.mem b).1 hb
  have:=hk b h2.1 h2.2
  omega
end
def ordM (ts:List Th) (t:Nat):Int:=((ts[t]?).map Th.ord).getD 0
def turnM (ts:List Th) (t:Nat):Int:=((ts[t]?).map Th.turn).getD 0
def Inrow (ts:List Th) (r t:Nat):Prop:=∃ u,ts[t]? = some u/\u.st=1/\u.row=r
def Inwl (act:Nat->Prop) (ts:List Th) (r t:Nat):Prop:=∃ u,ts[t]? = some u/\u.st=2/\u.other=r/\¬ act t
section
variable {ts:List Th}{i t r:Nat}{u:Th}{g:Th->Th}{act act':Nat->Prop}
theorem get_mod (hu:ts[i]? = some u):(ts.modify i g)[t]? = if t=i then some (g u) else ts[t]?:=by
 rw [List.getElem?_modify]
 by_cases e:i=t
 ·subst e;simp [hu]
 ·rw [if_neg (fun x=>e x.symm)];simp [e]
theorem ordM_mod (hu:ts[i]? = some u):ordM (ts.modify i g) t=if t=i then (g u).ord else ordM ts t:=by
 unfold ordM;rw [get_mod hu];split <;> simp
theorem turnM_mod (hu:ts[i]? = some u):turnM (ts.modify i g) t=if t=i then (g u).turn else turnM ts t:=by
 unfold turnM;rw [get_mod hu];split <;> simp
theorem inrow_mod (hu:ts[i]? = some u):Inrow (ts.modify i g) r t↔(t=i/\(g u).st=1/\(g u).row=r)\/(t≠i/\Inrow ts r t):=by
 unfold Inrow
 rw [get_mod hu]
 by_cases e:t=i
 ·simp [e]
 ·simp [e]
theorem inwl_mod (hu:ts[i]? = some u):Inwl act (ts.modify i g) r t↔(t=i/\(g u).st=2/\(g u).other=r/\¬ act i)\/(t≠i/\Inwl act ts r t):=by
 unfold Inwl
 rw [get_mod hu]
 by_cases e:t=i
 ·simp [e]
 ·simp [e]
theorem inrow_at (hu:ts[i]? = some u):Inrow ts r i↔u.st=1/\u.row=r:=by
 unfold Inrow;rw [hu];simp
theorem inwl_at (hu:ts[i]? = some u):Inwl act ts r i↔u.st=2/\u.other=r/\¬ act i:=by
 unfold Inwl;rw [hu];simp
theorem ordM_at (hu:ts[i]? = some u):ordM ts i=u.ord:=by unfold ordM;rw [hu];rfl
theorem turnM_at (hu:ts[i]? = some u):turnM ts i=u.turn:=by unfold turnM;rw [hu];rfl
end
theorem curM_best (ts:List Th):∀ k,k<=ts.length->(curM ts k=-1/\∀ (i:Nat) u,i < k->ts[i]? = some u->u.st≠1) \/
  ∃ (j:Nat) (u:Th),curM ts k=j/\j < k/\ts[j]? = some u/\u.st=1/\∀ (i:Nat) v,i < k->ts[i]? = some v->v.st=1->v.row < u.row\/(v.row=u.row/\u.ord<=v.ord)
 | 0,_=>.inl ⟨rfl,fun i u h=>absurd h (by omega)⟩
 | k+1,h=>by
  obtain ⟨t,ht⟩:∃ t,ts[k]? = some t:=⟨_,List.getElem?_eq_getElem h⟩
  by_cases hst:t.st=1
  ·rcases curM_best ts k (by omega) with ⟨e,hn⟩ | ⟨j,u,e,hj,hu,h1,hb⟩
   ·refine .inr ⟨k,t,?_,by omega,ht,hst,fun i v hi hv hs=>?_⟩
    ·simp only [curM,curStep,ht,e];rw [if_neg (by omega),if_pos (by omega)]
    ·by_cases e2:i=k
     ·subst e2;rw [ht] at hv;cases hv;exact .inr ⟨rfl,Int.le_refl _⟩
     ·exact absurd hs (hn i v (by omega) hv)
   ·by_cases hc:u.row < t.row\/(t.row=u.row/\t.ord < u.ord)
    ·refine .inr ⟨k,t,?_,by omega,ht,hst,fun i v hi hv hs=>?_⟩
     ·simp only [curM,curStep,ht,e,Int.toNat_natCast,hu];rw [if_neg (by omega),if_neg (by omega),if_pos hc]
     ·by_cases e2:i=k
      ·subst e2;rw [ht] at hv;cases hv;exact .inr ⟨rfl,Int.le_refl _⟩
      ·have:=hb i v (by omega) hv hs;omega
    ·refine .inr ⟨j,u,?_,by omega,hu,h1,fun i v hi hv hs=>?_⟩
     ·simp only [curM,curStep,ht,e,Int.toNat_natCast,hu];rw [if_neg (by omega),if_neg (by omega),if_neg hc]
     ·by_cases e2:i=k
      ·subst e2;rw [ht] at hv;cases hv;omega
      ·exact hb i v (by omega) hv hs
  ·have e3:curM ts (k+1)=curM ts k:=by simp only [curM,curStep,ht];rw [if_pos hst]
   rw [e3]
   rcases curM_best ts k (by omega) with ⟨e,hn⟩ | ⟨j,u,e,hj,hu,h1,hb⟩
   ·refine .inl ⟨e,fun i v hi hv=>?_⟩
    by_cases e2:i=k
    ·subst e2;rw [ht] at hv;cases hv;exact hst
    ·exact hn i v (by omega) hv
   ·refine .inr ⟨j,u,e,by omega,hu,h1,fun i v hi hv hs=>?_⟩
    by_cases e2:i=k
    ·subst e2;rw [ht] at hv;cases hv;exact absurd hs hst
    ·exact hb i v (by omega) hv hs
theorem senM_best (ts:List Th) (t f:Int):∀ k,k<=ts.length->(senM ts t f k=-1/\∀ (i:Nat) u,i < k->ts[i]? = some u->¬ (u.st=2/\u.other=t/\(f=-1\/f=i))) \/
  ∃ (j:Nat) (u:Th),senM ts t f k=j/\j < k/\ts[j]? = some u/\(u.st=2/\u.other=t/\(f=-1\/f=j))/\∀ (i:Nat) v,i < k->ts[i]? = some v->v.st=2/\v.other=t/\(f=-1\/f=i)->u.turn<=v.turn
 | 0,_=>.inl ⟨rfl,fun i u h=>absurd h (by omega)⟩
 | k+1,h=>by
  obtain ⟨x,hx⟩:∃ x,ts[k]? = some x:=⟨_,List.getElem?_eq_getElem h⟩
  by_cases hs:x.st≠2\/x.other≠t\/(f≠-1/\f≠k)
  ·have e3:senM ts t f (k+1)=senM ts t f k:=by simp only [senM,senStep,hx];rw [if_pos hs]
   rw [e3]
   rcases senM_best ts t f k (by omega) with ⟨e,hn⟩ | ⟨j,u,e,hj,hu,h1,hb⟩
   ·refine .inl ⟨e,fun i v hi hv=>?_⟩
    by_cases e2:i=k
    ·subst e2;rw [hx] at hv;cases hv;omega
    ·exact hn i v (by omega) hv
   ·refine .inr ⟨j,u,e,by omega,hu,h1,fun i v hi hv hs2=>?_⟩
    by_cases e2:i=k
    ·subst e2;rw [hx] at hv;cases hv;omega
    ·exact hb i v (by omega) hv hs2
  ·have hs':x.st=2/\x.other=t/\(f=-1\/f=k):=by omega
   rcases senM_best ts t f k (by omega) with ⟨e,hn⟩ | ⟨j,u,e,hj,hu,h1,hb⟩
   ·refine .inr ⟨k,x,?_,by omega,hx,hs',fun i v hi hv hs2=>?_⟩
    ·simp only [senM,senStep,hx,e];rw [if_neg hs,if_pos (by omega)]
    ·by_cases e2:i=k
     ·subst e2;rw [hx] at hv;cases hv;exact Int.le_refl _
     ·exact absurd hs2 (hn i v (by omega) hv)
   ·by_cases hc:x.turn < u.turn
    ·refine .inr ⟨k,x,?_,by omega,hx,hs',fun i v hi hv hs2=>?_⟩
     ·simp only [senM,senStep,hx,e,Int.toNat_natCast,hu];rw [if_neg hs,if_neg (by omega),if_pos hc]
     ·by_cases e2:i=k
      ·subst e2;rw [hx] at hv;cases hv;exact Int.le_refl _
      ·have:=hb i v (by omega) hv hs2;omega
    ·refine .inr ⟨j,u,?_,by omega,hu,h1,fun i v hi hv hs2=>?_⟩
     ·simp only [senM,senStep,hx,e,Int.toNat_natCast,hu];rw [if_neg hs,if_neg (by omega),if_neg hc]
     ·by_cases e2:i=k
      ·subst e2;rw [hx] at hv;cases hv;omega
      ·exact hb i v (by omega) hv hs2
def TimeR (u t:Int):Prop:=(u=0/\t=-1)\/∃ z:Int,u=z % 18446744073709551616/\t=wrap64 z
theorem TimeR.at {u t c:Int}(h:TimeR u t) (c0:1<=c) (c1:c<=4611686018427387904):u=c↔t=c:=by
 rcases h with ⟨rfl,rfl⟩ | ⟨z,rfl,rfl⟩
 ·omega
 ·unfold wrap64;omega
structure RelT (act:Nat->Prop) (n:Nat) (i:Nat) (t:Th) (p:PT):Prop where
 sp:p.sp=t.sp
 row:p.row=t.row
 left:p.left=t.left
 st:p.st=t.st
 code:p.code=t.code
 who:p.who=t.who
 ws:p.ws=t.ws
 got:p.got=t.got
 idle:t.st=1->t.time=-1/\(¬ act i->p.time=0)
 talk:t.st≠1\/act i->p.frm=t.frm/\p.win=t.win/\p.wait=t.wait/\(p.wait<=0->p.time=0)/\-1<=p.win
 time:t.st≠1->¬ act i->TimeR p.time t.time
 send:t.st=2->¬ act i->(∃ r:Nat,t.other=r/\r < n)/\p.tgt=t.other/\p.pw=t.mw/\p.item=(if t.lends=true then t.item else -1)/\p.rt=t.rt/\-1<=t.item/\t.item<=5
structure Rel (act:Nat->Prop) (M:PM) (K:RM):Prop where
 len:M.threads.length=K.threads.length
 th:∀ (i:Nat) t p,K.threads[i]? = some t->M.threads[i]? = some p->RelT act K.threads.length i t p
 rows:∀ r,r < 4->Sd (ordM K.threads) (Inrow K.threads r) (M.ln r)
 wl:∀ (r:Nat) p,M.threads[r]? = some p->Sd (turnM K.threads) (Inwl act K.threads r) p.wl
 sp:M.sp=K.sp
 ps:M.passes=K.passes
 lf:M.leaves=K.leaves
 fr:M.fr=K.fr
 cl:M.clock=K.clock
theorem Rel.get {act:Nat->Prop}{M:PM}{K:RM}(h:Rel act M K){i:Nat}{t:Th}(ht:K.threads[i]? = some t):∃ p,M.threads[i]? = some p/\RelT act K.threads.length i t p:=by
 have hl:i < M.threads.length:=by rw [h.len];exact (List.getElem?_eq_some_iff.1 ht).1
 exact ⟨_,List.getElem?_eq_getElem hl,h.th i t _ ht (List.getElem?_eq_getElem hl)⟩
theorem Rel.cur_none {act:Nat->Prop}{M:PM}{K:RM}(h:Rel act M K) (ft:K.Fit) (hn:∀ r,r < 4->M.ln r=[]):K.cur=-1:=by
 rcases curM_best K.threads K.threads.length (Nat.le_refl _) with ⟨e,_⟩ | ⟨j,u,e,hj,hu,h1,_⟩
 ·exact e
 ·have f:=ft.th j u hu
  have hm:j∈M.ln u.row.toNat:=((h.rows u.row.toNat (by have:=f.r1;omega)).mem j).2 ⟨u,hu,h1,by have:=f.r0;omega⟩
  rw [hn _ (by have:=f.r1;omega)] at hm
  simp at hm
theorem Rel.cur_head {act:Nat->Prop}{M:PM}{K:RM}(h:Rel act M K) (ft:K.Fit){r t:Nat}{rest:List Nat}(h4:r < 4) (hr:M.ln r=t :: rest) (hi:∀ s,r < s->s < 4->M.ln s=[]):K.cur=t:=by
 have S:=h.rows r h4
 obtain ⟨v,hv,v1,v2⟩:=(S.mem t).1 (by rw [hr];simp)
 have hvl:=(List.getElem?_eq_some_iff.1 hv).1
 rcases curM_best K.threads K.threads.length (Nat.le_refl _) with ⟨_,hno⟩ | ⟨j,u,e,hj,hu,h1,hb⟩
 ·exact absurd v1 (hno t v hvl hv)
 ·have f:=ft.th j u hu
  have b:=hb t v hvl hv v1
  have hm:j∈M.ln u.row.toNat:=((h.rows u.row.toNat (by have:=f.r1;omega)).mem j).2 ⟨u,hu,h1,by have:=f.r0;omega⟩
  have h2:u.row.toNat<=r:=by
   rcases Nat.lt_or_ge r u.row.toNat with hlt | hge
   ·rw [hi _ hlt (by have:=f.r1;omega)] at hm;simp at hm
   ·exact hge
  have hrr:u.row.toNat=r:=by have:=f.r0;omega
  rw [hrr,hr] at hm
  show curM K.threads K.threads.length=t
  rw [e]
  rcases List.mem_cons.1 hm with e2 | hm
  ·rw [e2]
  ·have hp:=S.srt
   rw [hr] at hp
   have:=(List.pairwise_cons.1 hp).1 j hm
   rw [ordM_at hv,ordM_at hu] at this
   omega
theorem Rel.sen {act:Nat->Prop}{M:PM}{K:RM}(h:Rel act M K) (ft:K.Fit){t:Nat}{p:PT}(hp:M.threads[t]? = some p) (f:Int) (ha:∀ i,act i->i=t) :
  (∀ s,p.wl.find? (fun (i:Nat)=>f == -1 || f == (i:Int))=some s->senM K.threads t f K.threads.length=s/\s∈p.wl/\s≠t)/\(p.wl.find? (fun (i:Nat)=>f == -1 || f == (i:Int))=none->senM K.threads t f K.threads.length=-1):=by
 have S:=h.wl t p hp
 have hin:∀ (i:Nat) u,K.threads[i]? = some u->u.st=2->u.other=t->i∈p.wl:=fun i u hu h1 h2=>(S.mem i).2 ⟨u,hu,h1,h2,fun hai=>(ft.th i u hu).ot h1 (by rw [h2,ha i hai])⟩
 constructor
 ·intro s hs
  have hm:=List.mem_of_find?_eq_some hs
  have hq:=List.find?_some hs
  have hq:f=-1\/f=(s:Int):=by simpa using hq
  obtain ⟨v,hv,v1,v2,v3⟩:=(S.mem s).1 hm
  have hvl:=(List.getElem?_eq_some_iff.1 hv).1
  refine ⟨?_,hm,fun e=>?_⟩
  ·rcases senM_best K.threads t f K.threads.length (Nat.le_refl _) with ⟨_,hno⟩ | ⟨j,u,e,hj,hu,hc,hb⟩
   ·exact absurd ⟨v1,v2,hq⟩ (hno s v hvl hv)
   ·rw [e]
    have b:=hb s v hvl hv ⟨v1,v2,hq⟩
    have hjm:=hin j u hu hc.1 hc.2.1
    by_cases ejs:j=s
    ·rw [ejs]
    ·exfalso
     obtain ⟨h0,xs,ys,hl,hfalse⟩:=List.find?_eq_some_iff_append.1 hs
     rw [hl] at hjm
     rcases List.mem_append.1 hjm with hj1 | hj1
     ·have:=hfalse j hj1
      have hc3:=hc.2.2
      simp at this
      omega
     ·rcases List.mem_cons.1 hj1 with hj2 | hj2
      ·exact ejs hj2
      ·have hs2:=S.srt
       rw [hl] at hs2
       have h3:=(List.pairwise_cons.1 (List.pairwise_append.1 hs2).2.1).1 j hj2
       rw [turnM_at hv,turnM_at hu] at h3
       omega
  ·subst e
   exact (ft.th s v hv).ot v1 v2
 ·intro hn
  rcases senM_best K.threads t f K.threads.length (Nat.le_refl _) with ⟨e,_⟩ | ⟨j,u,e,hj,hu,hc,hb⟩
  ·exact e
  ·have hjm:=hin j u hu hc.1 hc.2.1
   have:=List.find?_eq_none.1 hn j hjm
   have hc3:=hc.2.2
   simp at this
   omega
open Go.RowKit
def Wo (act:Nat->Prop) (i:Nat):Nat->Prop:=fun j=>act j/\j≠i
def Wi (act:Nat->Prop) (i:Nat):Nat->Prop:=fun j=>act j\/j=i
section
variable {act act':Nat->Prop}{ts:List Th}{r i j n:Nat}{t:Th}{p:PT}
theorem inwl_act (h:act' j↔act j):Inwl act' ts r j↔Inwl act ts r j:=by unfold Inwl;simp only [h]
theorem RelT.to_act (h:RelT act n i t p) (e:act' i↔act i):RelT act' n i t p:=
 ⟨h.sp,h.row,h.left,h.st,h.code,h.who,h.ws,h.got,fun a=>⟨(h.idle a).1,fun b=>(h.idle a).2 (fun c=>b (e.2 c))⟩,fun a=>h.talk (a.imp id e.1),fun a b=>h.time a (fun c=>b (e.2 c)),fun a b=>h.send a (fun c=>b (e.2 c))⟩
theorem RelT.enter (h:RelT act n i t p) (ha:act' i) (h1:t.st≠1):RelT act' n i t p:=
 ⟨h.sp,h.row,h.left,h.st,h.code,h.who,h.ws,h.got,fun a=>absurd a h1,fun _=>h.talk (.inl h1),fun _ b=>absurd ha b,fun _ b=>absurd ha b⟩
end
theorem Rel.th_upd {act act':Nat->Prop}{M:PM}{K:RM}(h:Rel act M K){i:Nat}{f:PT->PT}{g:Th->Th}(hi:∀ t p,K.threads[i]? = some t->M.threads[i]? = some p->RelT act K.threads.length i t p->RelT act' K.threads.length i (g t) (f p)) (ho:∀ j,j≠i->(act' j↔act j)) :
  ∀ (j:Nat) t' p',(K.threads.modify i g)[j]? = some t'->(M.threads.modify i f)[j]? = some p'->RelT act' K.threads.length j t' p':=by
 intro j t' p' ht hp
 rw [List.getElem?_modify] at ht hp
 rcases hx:K.threads[j]? with _ | x
 ·rw [hx] at ht;simp at ht
 ·rcases hy:M.threads[j]? with _ | y
  ·rw [hy] at hp;simp at hp
  ·rw [hx] at ht
   rw [hy] at hp
   by_cases e:i=j
   ·subst e
    simp at ht hp
    rw [<- ht,<- hp]
    exact hi x y hx hy (h.th i x y hx hy)
   ·simp [e] at ht hp
    rw [<- ht,<- hp]
    exact (h.th j x y hx hy).to_act (ho j (fun a=>e a.symm))
theorem wl_upd {M:PM}{i:Nat}{f:PT->PT}(hf:∀ p,(f p).wl=p.wl){r:Nat}{p':PT}(h:(M.threads.modify i f)[r]? = some p'):∃ p,M.threads[r]? = some p/\p'.wl=p.wl:=by
 rw [List.getElem?_modify] at h
 rcases hy:M.threads[r]? with _ | y
 ·rw [hy] at h;simp at h
 ·rw [hy] at h
  by_cases e:i=r
  ·simp [e] at h;exact ⟨y,rfl,by rw [<- h,hf]⟩
  ·simp [e] at h;exact ⟨y,rfl,by rw [<- h]⟩
section
variable {act:Nat->Prop}{M:PM}{K:RM}{i:Nat}{t:Th}
theorem Rel.over (h:Rel act M K) (ht:K.threads[i]? = some t) (s1:t.st=1) (e:Int):Rel (Wo act i) (M.upd i (overP e (-1) [] (-1))) (K.over i e):=by
 refine ⟨by simpa [PM.upd,RM.over,RM.upd] using h.len,?_,fun r hr=>?_,fun r p' hp=>?_,h.sp,h.ps,h.lf,h.fr,h.cl⟩
 ·have:=h.th_upd (act':=Wo act i) (i:=i) (f:=overP e (-1) [] (-1)) (g:=fun u=>{ u with st:=1,time:=-1,code:=e,who:=-1,ws:=[],got:=-1 }) (fun t p _ _ q=>⟨q.sp,q.row,q.left,rfl,rfl,rfl,rfl,rfl,fun _=>⟨rfl,fun _=>rfl⟩,fun a=>a.elim (fun a=>absurd rfl a) (fun a=>absurd rfl a.2),fun a=>absurd rfl a,fun a=>by simp at a⟩) (fun j hj=>⟨fun a=>a.1,fun a=>⟨a,hj⟩⟩)
  intro j t' p' hj hp'
  have e9:(K.over i e).threads.length=K.threads.length:=by simp [RM.over,RM.upd]
  rw [e9]
  exact this j t' p' hj hp'
 ·refine (h.rows r hr).congr (fun j=>?_) (fun j _=>?_)
  ·show Inrow K.threads r j↔Inrow (K.threads.modify i _) r j
   rw [inrow_mod ht]
   by_cases e:j=i
   ·subst e;rw [inrow_at ht];simp [s1]
   ·simp [e]
  ·show ordM (K.threads.modify i _) j=_
   rw [ordM_mod ht]
   split
   ·rename_i e;subst e;rw [ordM_at ht]
   ·rfl
 ·obtain ⟨p,hp,e1⟩:=wl_upd (f:=overP e (-1) [] (-1)) (fun _=>rfl) hp
  rw [e1]
  refine (h.wl r p hp).congr (fun j=>?_) (fun j _=>?_)
  ·show _↔Inwl _ (K.threads.modify i _) r j
   rw [inwl_mod ht]
   by_cases e:j=i
   ·subst e;rw [inwl_at ht];simp [s1]
   ·simp [e,inwl_act (act:=act) (act':=Wo act i) (j:=j) ⟨fun a=>a.1,fun a=>⟨a,e⟩⟩]
  ·show turnM (K.threads.modify i _) j=_
   rw [turnM_mod ht]
   split
   ·rename_i e;subst e;rw [turnM_at ht]
   ·rfl
theorem over_last (ht:K.threads[i]? = some t) (e:Int):((K.over i e).toLast i).threads=K.threads.modify i (fun u=>{ u with st:=1,time:=-1,code:=e,who:=-1,ws:=[],got:=-1,ord:=K.last }):=
 modify_two (h:=fun u:Th=>{ u with st:=1,time:=-1,code:=e,who:=-1,ws:=[],got:=-1,ord:=K.last }) ht rfl
theorem Rel.rowsLast (h:Rel act M K) (ft:K.Fit){b:Nat}(nm:K.Num b) (ht:K.threads[i]? = some t){g:Th->Th}(g1:(g t).st=1) (g2:(g t).row=t.row) (g3:(g t).ord=K.last) (r:Nat) (hr:r < 4) :
  Sd (ordM (K.threads.modify i g)) (Inrow (K.threads.modify i g) r) ((M.setLn t.row.toNat ((M.ln t.row.toNat).erase i ++ [i])).ln r):=by
 have f:=ft.th i t ht
 have r0:=f.r0
 simp only [PM.setLn]
 by_cases e:r=t.row.toNat
 ·rw [if_pos e,<- e]
  refine (h.rows r hr).comeLast i (fun j=>?_) (fun j hj hn=>?_)
  ·rw [inrow_mod ht]
   by_cases e2:j=i
   ·subst e2;simp [g1,g2];omega
   ·simp [e2]
  ·rw [ordM_mod ht,ordM_mod ht,if_neg hn,if_pos rfl,g3]
   obtain ⟨v,hv,_⟩:=hj
   have:=nm.o0 j v hv
   rw [ordM_at hv]
   exact ⟨rfl,this.2⟩
 ·rw [if_neg e]
  refine (h.rows r hr).congr (fun j=>?_) (fun j hj=>?_)
  ·rw [inrow_mod ht]
   by_cases e2:j=i
   ·subst e2
    rw [inrow_at ht]
    simp [g2]
    intro a
    omega
   ·simp [e2]
  ·rw [ordM_mod ht]
   by_cases e2:j=i
   ·subst e2
    obtain ⟨v,hv,_,a⟩:=hj
    rw [ht] at hv
    cases hv
    omega
   ·rw [if_neg e2]
theorem Rel.rowsFirst (h:Rel act M K) (ft:K.Fit){b:Nat}(nm:K.Num b) (ht:K.threads[i]? = some t){g:Th->Th}(g1:(g t).st=1) (g2:(g t).row=t.row) (g3:(g t).ord=K.first) (r:Nat) (hr:r < 4) :
  Sd (ordM (K.threads.modify i g)) (Inrow (K.threads.modify i g) r) ((M.setLn t.row.toNat (i :: (M.ln t.row.toNat).erase i)).ln r):=by
 have f:=ft.th i t ht
 have r0:=f.r0
 simp only [PM.setLn]
 by_cases e:r=t.row.toNat
 ·rw [if_pos e,<- e]
  refine (h.rows r hr).comeFirst i (fun j=>?_) (fun j hj hn=>?_)
  ·rw [inrow_mod ht]
   by_cases e2:j=i
   ·subst e2;simp [g1,g2];omega
   ·simp [e2]
  ·rw [ordM_mod ht,ordM_mod ht,if_neg hn,if_pos rfl,g3]
   obtain ⟨v,hv,_⟩:=hj
   have:=nm.o0 j v hv
   rw [ordM_at hv]
   exact ⟨rfl,this.1⟩
 ·rw [if_neg e]
  refine (h.rows r hr).congr (fun j=>?_) (fun j hj=>?_)
  ·rw [inrow_mod ht]
   by_cases e2:j=i
   ·subst e2
    rw [inrow_at ht]
    simp [g2]
    intro a
    omega
   ·simp [e2]
  ·rw [ordM_mod ht]
   by_cases e2:j=i
   ·subst e2
    obtain ⟨v,hv,_,a⟩:=hj
    rw [ht] at hv
    cases hv
    omega
   ·rw [if_neg e2]
theorem Rel.rowsOut (h:Rel act M K) (ft:K.Fit) (ht:K.threads[i]? = some t){g:Th->Th}(g1:(g t).st≠1) (r:Nat) (hr:r < 4) :
  Sd (ordM (K.threads.modify i g)) (Inrow (K.threads.modify i g) r) ((M.setLn t.row.toNat ((M.ln t.row.toNat).erase i)).ln r):=by
 have f:=ft.th i t ht
 have r0:=f.r0
 simp only [PM.setLn]
 by_cases e:r=t.row.toNat
 ·rw [if_pos e,<- e]
  refine (h.rows r hr).erase i (fun j=>?_) (fun j hj hn=>?_)
  ·rw [inrow_mod ht]
   by_cases e2:j=i
   ·subst e2;simp [g1]
   ·simp [e2]
  ·rw [ordM_mod ht,if_neg hn]
 ·rw [if_neg e]
  refine (h.rows r hr).congr (fun j=>?_) (fun j hj=>?_)
  ·rw [inrow_mod ht]
   by_cases e2:j=i
   ·subst e2
    rw [inrow_at ht]
    simp [g1]
    intro _ a;omega
   ·simp [e2]
  ·rw [ordM_mod ht]
   by_cases e2:j=i
   ·subst e2
    obtain ⟨v,hv,_,a⟩:=hj
    rw [ht] at hv
    cases hv
    omega
   ·rw [if_neg e2]
theorem Rel.wlSame {act':Nat->Prop}(h:Rel act M K) (ht:K.threads[i]? = some t) (hn:t.st≠2\/act i){g:Th->Th}(g1:(g t).st≠2\/act' i) (ho:∀ j,j≠i->(act' j↔act j)){r:Nat}{p:PT}(hp:M.threads[r]? = some p) :
  Sd (turnM (K.threads.modify i g)) (Inwl act' (K.threads.modify i g) r) p.wl:=by
 refine (h.wl r p hp).congr (fun j=>?_) (fun j hj=>?_)
 ·rw [inwl_mod ht]
  by_cases e:j=i
  ·subst e
   rw [inwl_at ht]
   simp
   constructor
   ·rintro ⟨a,_,b⟩;rcases hn with hn | hn;exact absurd a hn;exact absurd hn b
   ·rintro ⟨a,_,b⟩;rcases g1 with g1 | g1;exact absurd a g1;exact absurd g1 b
  ·simp [e,inwl_act (ho j e)]
 ·rw [turnM_mod ht]
  by_cases e:j=i
  ·subst e
   obtain ⟨v,hv,a,_,b⟩:=hj
   rw [ht] at hv
   cases hv
   rcases hn with hn | hn
   ·exact absurd a hn
   ·exact absurd hn b
  ·rw [if_neg e]
theorem wo_ne:∀ j,j≠i->(Wo act i j↔act j):=fun _j hj=>⟨fun a=>a.1,fun a=>⟨a,hj⟩⟩
theorem wi_ne:∀ j,j≠i->(Wi act i j↔act j):=fun _j hj=>⟨fun a=>a.elim id (fun e=>absurd e hj),.inl⟩
theorem Rel.overLast (h:Rel act M K) (ft:K.Fit){b:Nat}(nm:K.Num b) (ht:K.threads[i]? = some t) (hn:t.st≠2\/act i) (e:Int) :
  Rel (Wo act i) ((M.setLn t.row.toNat ((M.ln t.row.toNat).erase i ++ [i])).upd i (overP e (-1) [] (-1))) ((K.over i e).toLast i):=by
 have ek:=over_last ht e
 refine ⟨?_,?_,fun r hr=>?_,fun r p' hp=>?_,h.sp,h.ps,h.lf,h.fr,h.cl⟩
 ·rw [ek];simpa [PM.upd,PM.setLn] using h.len
 ·rw [ek]
  have:=h.th_upd (act':=Wo act i) (i:=i) (f:=overP e (-1) [] (-1)) (g:=fun u=>{ u with st:=1,time:=-1,code:=e,who:=-1,ws:=[],got:=-1,ord:=K.last }) (fun t p _ _ q=>⟨q.sp,q.row,q.left,rfl,rfl,rfl,rfl,rfl,fun _=>⟨rfl,fun _=>rfl⟩,fun a=>a.elim (fun a=>absurd rfl a) (fun a=>absurd rfl a.2),fun a=>absurd rfl a,fun a=>by simp at a⟩) wo_ne
  intro j t' p' hj hp'
  rw [show (K.threads.modify i _).length=K.threads.length by simp]
  exact this j t' p' hj hp'
 ·rw [ek]
  exact h.rowsLast ft nm ht (g:=fun u=>{ u with st:=1,time:=-1,code:=e,who:=-1,ws:=[],got:=-1,ord:=K.last }) rfl rfl rfl r hr
 ·rw [ek]
  obtain ⟨p,hp,e1⟩:=wl_upd (M:=M) (f:=overP e (-1) [] (-1)) (fun _=>rfl) hp
  rw [e1]
  exact h.wlSame ht hn (.inl (by simp)) wo_ne hp
def timP (clock:Int) (p:PT):Int:=if 0 < p.wait then (clock+p.wait) % 18446744073709551616 else p.time
theorem timR {c:Int}{p:PT}{t:Th}(hw:p.wait=t.wait) (hz:p.wait<=0->p.time=0):TimeR (timP c p) (tim c t.wait):=by
 unfold timP tim
 rw [hw] at hz ⊢
 by_cases e:0 < t.wait
 ·rw [if_pos e,if_pos e];exact .inr ⟨c+t.wait,rfl,rfl⟩
 ·rw [if_neg e,if_neg e];exact .inl ⟨hz (by omega),rfl⟩
theorem timZ {c:Int}{p:PT}(hz:p.wait<=0->p.time=0):p.wait<=0->timP c p=0:=fun e=>by
 unfold timP;rw [if_neg (by omega)];exact hz e
theorem Rel.waits3 (h:Rel act M K) (ft:K.Fit) (ht:K.threads[i]? = some t) (ha:act i) :
  Rel (Wo act i) ((M.setLn t.row.toNat ((M.ln t.row.toNat).erase i)).upd i (fun p=>{ p with st:=3,time:=timP M.clock p })) (K.waits i 3 (-1)):=by
 refine ⟨?_,?_,fun r hr=>?_,fun r p' hp=>?_,h.sp,h.ps,h.lf,h.fr,h.cl⟩
 ·simpa [PM.upd,PM.setLn,RM.waits,RM.upd] using h.len
 ·have:=h.th_upd (act':=Wo act i) (i:=i) (f:=fun p=>{ p with st:=3,time:=timP M.clock p }) (g:=fun u=>{ u with st:=3,other:=-1,turn:=K.last,time:=tim K.clock u.wait }) (fun t p _ _ q=>by
    have ta:=q.talk (.inr ha)
    exact ⟨q.sp,q.row,q.left,rfl,q.code,q.who,q.ws,q.got,fun a=>by simp at a,fun _=>⟨ta.1,ta.2.1,ta.2.2.1,timZ ta.2.2.2.1,ta.2.2.2.2⟩,fun _ _=>by rw [h.cl];exact timR ta.2.2.1 ta.2.2.2.1,fun a=>by simp at a⟩) wo_ne
  intro j t' p' hj hp'
  have e9:(K.waits i 3 (-1)).threads.length=K.threads.length:=by simp [RM.waits,RM.upd]
  rw [e9]
  exact this j t' p' hj hp'
 ·exact h.rowsOut ft ht (g:=fun u=>{ u with st:=3,other:=-1,turn:=K.last,time:=tim K.clock u.wait }) (by simp) r hr
 ·obtain ⟨p,hp,e1⟩:=wl_upd (M:=M) (f:=fun p=>{ p with st:=3,time:=timP M.clock p }) (fun _=>rfl) hp
  rw [e1]
  exact h.wlSame ht (.inr ha) (g:=fun u=>{ u with st:=3,other:=-1,turn:=K.last,time:=tim K.clock u.wait }) (.inl (by simp)) wo_ne hp
def Par (t:Th) (p:PT):Prop:=p.pw=t.mw/\p.item=(if t.lends=true then t.item else -1)/\p.rt=t.rt/\-1<=t.item/\t.item<=5
theorem Rel.waits2 (h:Rel act M K) (ft:K.Fit){b:Nat}(nm:K.Num b) (ht:K.threads[i]? = some t) (ha:act i){p:PT}(hp:M.threads[i]? = some p) (hpar:Par t p){r:Nat}(hr:r < K.threads.length) (hri:r≠i) :
  Rel (Wo act i) (((M.upd i (fun p=>{ p with tgt:=r })).upd r (fun p=>{ p with wl:=p.wl.erase i ++ [i] })).setLn t.row.toNat ((M.ln t.row.toNat).erase i) |>.upd i (fun p=>{ p with st:=2,time:=timP M.clock p })) (K.waits i 2 r):=by
 obtain ⟨q,hq⟩:∃ q,M.threads[r]? = some q:=⟨_,List.getElem?_eq_getElem (by rw [h.len];exact hr)⟩
 have em:(((M.threads.modify i (fun p=>{ p with tgt:=(r:Int) })).modify r (fun p=>{ p with wl:=p.wl.erase i ++ [i] })).modify i (fun p=>{ p with st:=2,time:=timP M.clock p }))=(M.threads.modify i (fun p=>{ p with tgt:=(r:Int),st:=2,time:=timP M.clock p })).modify r (fun p=>{ p with wl:=p.wl.erase i ++ [i] }):=by
  apply List.ext_getElem?
  intro j
  simp only [List.getElem?_modify]
  rcases hx:M.threads[j]? with _ | x
  ·simp
  ·by_cases e1:i=j
   ·have e2:¬ r=j:=by omega
    simp [e1,e2,timP]
   ·by_cases e2:r=j <;> simp [e1,e2]
 have hnm:=nm.t0
 refine ⟨?_,?_,fun r' hr'=>?_,fun r' p' hp'=>?_,h.sp,h.ps,h.lf,h.fr,h.cl⟩
 ·simpa [PM.upd,PM.setLn,RM.waits,RM.upd] using h.len
 ·have:=h.th_upd (act':=Wo act i) (i:=i) (f:=fun p=>{ p with tgt:=(r:Int),st:=2,time:=timP M.clock p }) (g:=fun u=>{ u with st:=2,other:=(r:Int),turn:=K.last,time:=tim K.clock u.wait }) (fun t' p' ht' hp' q=>by
    rw [ht] at ht';cases ht'
    rw [hp] at hp';cases hp'
    have ta:=q.talk (.inr ha)
    exact ⟨q.sp,q.row,q.left,rfl,q.code,q.who,q.ws,q.got,fun a=>by simp at a,fun _=>⟨ta.1,ta.2.1,ta.2.2.1,timZ ta.2.2.2.1,ta.2.2.2.2⟩,fun _ _=>by rw [h.cl];exact timR ta.2.2.1 ta.2.2.2.1,fun _ _=>⟨⟨r,rfl,hr⟩,rfl,hpar.1,hpar.2.1,hpar.2.2.1,hpar.2.2.2.1,hpar.2.2.2.2⟩⟩) wo_ne
  intro j t' p' ht' hp'
  have hp2:(((M.threads.modify i (fun p=>{ p with tgt:=(r:Int) })).modify r (fun p=>{ p with wl:=p.wl.erase i ++ [i] })).modify i (fun p=>{ p with st:=2,time:=timP M.clock p }))[j]? = some p':=hp'
  rw [em,List.getElem?_modify] at hp2
  rcases hy:(M.threads.modify i (fun p=>{ p with tgt:=(r:Int),st:=2,time:=timP M.clock p }))[j]? with _ | y
  ·rw [hy] at hp2;simp at hp2
  ·rw [hy] at hp2
   have R:=this j t' y ht' hy
   have hl:(K.waits i 2 r).threads.length=K.threads.length:=by simp [RM.waits,RM.upd]
   rw [hl]
   by_cases e:r=j
   ·simp [e] at hp2
    rw [<- hp2]
    exact ⟨R.sp,R.row,R.left,R.st,R.code,R.who,R.ws,R.got,R.idle,R.talk,R.time,R.send⟩
   ·simp [e] at hp2
    rw [<- hp2]
    exact R
 ·exact h.rowsOut ft ht (g:=fun u=>{ u with st:=2,other:=(r:Int),turn:=K.last,time:=tim K.clock u.wait }) (by simp) r' hr'
 ·have hp2:(((M.threads.modify i (fun p=>{ p with tgt:=(r:Int) })).modify r (fun p=>{ p with wl:=p.wl.erase i ++ [i] })).modify i (fun p=>{ p with st:=2,time:=timP M.clock p }))[r']? = some p':=hp'
  rw [em,List.getElem?_modify] at hp2
  rcases hy:(M.threads.modify i (fun p=>{ p with tgt:=(r:Int),st:=2,time:=timP M.clock p }))[r']? with _ | y
  ·rw [hy] at hp2;simp at hp2
  ·rw [hy] at hp2
   obtain ⟨z,hz,e1⟩:=wl_upd (M:=M) (f:=fun p=>{ p with tgt:=(r:Int),st:=2,time:=timP M.clock p }) (fun _=>rfl) hy
   have W:=h.wl r' z hz
   show Sd (turnM (K.threads.modify i (fun u=>{ u with st:=2,other:=(r:Int),turn:=K.last,time:=tim K.clock u.wait }))) (Inwl (Wo act i) (K.threads.modify i (fun u=>{ u with st:=2,other:=(r:Int),turn:=K.last,time:=tim K.clock u.wait })) r') p'.wl
   by_cases e:r=r'
   ·subst e
    simp at hp2
    rw [<- hp2]
    show Sd _ _ (y.wl.erase i ++ [i])
    rw [e1]
    refine W.comeLast i (fun j=>?_) (fun j hj hn=>?_)
    ·rw [inwl_mod ht]
     by_cases e2:j=i
     ·subst e2;simp [Wo]
     ·simp [e2,inwl_act (wo_ne (act:=act) j e2)]
    ·rw [turnM_mod ht,turnM_mod ht,if_neg hn,if_pos rfl]
     obtain ⟨v,hv,a,_⟩:=hj
     rw [turnM_at hv]
     exact ⟨rfl,(hnm j v hv (by omega)).2⟩
   ·simp [e] at hp2
    rw [<- hp2,e1]
    refine W.congr (fun j=>?_) (fun j hj=>?_)
    ·rw [inwl_mod ht]
     by_cases e2:j=i
     ·subst e2
      rw [inwl_at ht]
      simp [ha,Wo]
      omega
     ·simp [e2,inwl_act (wo_ne (act:=act) j e2)]
    ·rw [turnM_mod ht]
     by_cases e2:j=i
     ·subst e2
      obtain ⟨v,hv,a,_,b⟩:=hj
      exact absurd ha b
     ·rw [if_neg e2]
end
open Go.RowKit
noncomputable def lendP (L:List Lf) (asp item rt bsp win:Int):List Lf×Int:=
 if item < 0\/win < 0 then (L,-1) else
  match findLf (goneL L bsp win true) asp item with
  | none=>(goneL L bsp win true,-1)
  | some l=>if bits .and .i64 l.rt rt=0 then (goneL L bsp win true,-1) else (goneL L bsp win true ++ [⟨bsp,win,l.fr,bits .and .i64 l.rt rt,asp,item⟩],win)
theorem lendL_P (L:List Lf) (a b:Th):lendL L a b=lendP L a.sp (if a.lends=true then a.item else -1) a.rt b.sp b.win:=by
 unfold lendL lendP
 by_cases e:a.lends=true
 ·simp only [e,if_true,Bool.true_eq_false,or_false]
  by_cases q:a.item < 0\/b.win < 0
  ·rw [if_pos q,if_pos q]
  ·rw [if_neg q,if_neg q]
   cases findLf (goneL L b.sp b.win true) a.sp a.item <;> rfl
 ·simp [e]
section
variable {act:Nat->Prop}{M:PM}{K:RM}{i:Nat}{t:Th}
theorem Rel.parcel (h:Rel act M K) (ha:act i) (f:PT->PT) (hf:∀ p,∃ a b c d,f p={ p with tgt:=a,pw:=b,item:=c,rt:=d }):Rel act (M.upd i f) K:=by
 refine ⟨by simpa [PM.upd] using h.len,fun j t' p' ht hp=>?_,h.rows,fun r p' hp=>?_,h.sp,h.ps,h.lf,h.fr,h.cl⟩
 ·have hp2:(M.threads.modify i f)[j]? = some p':=hp
  rw [List.getElem?_modify] at hp2
  rcases hy:M.threads[j]? with _ | y
  ·rw [hy] at hp2;simp at hp2
  ·rw [hy] at hp2
   have R:=h.th j t' y ht hy
   by_cases e:i=j
   ·subst e
    simp at hp2
    obtain ⟨a,b,c,d,ef⟩:=hf y
    rw [<- hp2,ef]
    exact ⟨R.sp,R.row,R.left,R.st,R.code,R.who,R.ws,R.got,R.idle,R.talk,R.time,fun _ b=>absurd ha b⟩
   ·simp [e] at hp2
    rw [<- hp2];exact R
 ·obtain ⟨p,hp,e1⟩:=wl_upd (M:=M) (f:=f) (fun p=>by obtain ⟨a,b,c,d,ef⟩:=hf p;rw [ef]) hp
  rw [e1]
  exact h.wl r p hp
theorem Rel.lendsTo (h:Rel act M K) (ha:act i) (ht:K.threads[i]? = some t) (b:Bool):Rel act M (K.lendsTo i b):=by
 have hl:(K.lendsTo i b).threads.length=K.threads.length:=by simp [RM.lendsTo,RM.upd]
 refine ⟨by rw [hl];exact h.len,fun j t' p' hj hp=>?_,fun r hr=>?_,fun r p' hp=>?_,h.sp,h.ps,h.lf,h.fr,h.cl⟩
 ·rw [hl]
  have hj2:(K.threads.modify i (fun u=>{ u with lends:=b }))[j]? = some t':=hj
  rw [get_mod ht] at hj2
  split at hj2
  ·rename_i e
   subst e
   cases hj2
   have R:=h.th j t p' ht hp
   exact ⟨R.sp,R.row,R.left,R.st,R.code,R.who,R.ws,R.got,R.idle,R.talk,R.time,fun _ b=>absurd ha b⟩
  ·exact h.th j t' p' hj2 hp
 ·refine (h.rows r hr).congr (fun j=>?_) (fun j _=>?_)
  ·show _↔Inrow (K.threads.modify i _) r j
   rw [inrow_mod ht]
   by_cases e:j=i
   ·subst e;rw [inrow_at ht];simp
   ·simp [e]
  ·show ordM (K.threads.modify i _) j=_
   rw [ordM_mod ht]
   split
   ·rename_i e;subst e;rw [ordM_at ht]
   ·rfl
 ·exact h.wlSame ht (.inr ha) (g:=fun u=>{ u with lends:=b }) (.inr ha) (fun _ _=>Iff.rfl) hp
theorem Rel.leaves {r:Nat} {q:PT} (h:Rel act M K) (hq:M.threads[r]? = some q) (hi:i∈q.wl):Rel (Wi act i) (M.upd r (fun p=>{ p with wl:=q.wl.erase i })) K:=by
 obtain ⟨u,hu,u1,u2,u3⟩:=((h.wl r q hq).mem i).1 hi
 refine ⟨by simpa [PM.upd] using h.len,fun j t' p' ht hp=>?_,h.rows,fun r' p' hp=>?_,h.sp,h.ps,h.lf,h.fr,h.cl⟩
 ·have hp2:(M.threads.modify r (fun p=>{ p with wl:=q.wl.erase i }))[j]? = some p':=hp
  rw [get_modA hq] at hp2
  have key:∀ y,M.threads[j]? = some y->RelT (Wi act i) K.threads.length j t' y:=by
   intro y hy
   have R:=h.th j t' y ht hy
   by_cases e:j=i
   ·subst e
    rw [hu] at ht
    cases ht
    exact R.enter (.inr rfl) (by omega)
   ·exact R.to_act (wi_ne j e)
  split at hp2
  ·rename_i e
   subst e
   cases hp2
   have R:=key q hq
   exact ⟨R.sp,R.row,R.left,R.st,R.code,R.who,R.ws,R.got,R.idle,R.talk,R.time,R.send⟩
  ·exact key p' hp2
 ·have hp2:(M.threads.modify r (fun p=>{ p with wl:=q.wl.erase i }))[r']? = some p':=hp
  rw [get_modA hq] at hp2
  split at hp2
  ·rename_i e
   subst e
   cases hp2
   refine (h.wl r' q hq).erase i (fun j=>?_) (fun j _ _=>rfl)
   by_cases e:j=i
   ·subst e
    rw [inwl_at hu]
    simp [Wi]
   ·rw [inwl_act (wi_ne (act:=act) j e)];simp [e]
  ·rename_i e
   refine (h.wl r' p' hp2).congr (fun j=>?_) (fun j _=>rfl)
   by_cases e2:j=i
   ·subst e2
    rw [inwl_at hu,inwl_at hu]
    simp [Wi]
    omega
   ·rw [inwl_act (wi_ne (act:=act) j e2)]
theorem Rel.enters (h:Rel act M K) (ht:K.threads[i]? = some t) (h3:t.st=3):Rel (Wi act i) M K:=by
 refine ⟨h.len,fun j t' p' hj hp=>?_,h.rows,fun r p' hp=>?_,h.sp,h.ps,h.lf,h.fr,h.cl⟩
 ·have R:=h.th j t' p' hj hp
  by_cases e:j=i
  ·subst e
   rw [ht] at hj
   cases hj
   exact R.enter (.inr rfl) (by omega)
  ·exact R.to_act (wi_ne j e)
 ·refine (h.wl r p' hp).congr (fun j=>?_) (fun j _=>rfl)
  by_cases e:j=i
  ·subst e;rw [inwl_at ht,inwl_at ht];simp [h3]
  ·rw [inwl_act (wi_ne (act:=act) j e)]
def askP (m:Ms) (p:PT):PT:={ p with tgt:=0,pw:=[],item:=0,rt:=0,frm:=m.frm,win:=m.win,wait:=m.wait,time:=0 }
theorem Rel.asks (h:Rel act M K) (ht:K.threads[i]? = some t) (s1:t.st=1) (m:Ms) (hw:-1<=m.win):Rel (Wi act i) (M.upd i (askP m)) (K.asks i m):=by
 have hl:(K.asks i m).threads.length=K.threads.length:=by simp [RM.asks,RM.upd]
 refine ⟨by rw [hl];simpa [PM.upd] using h.len,?_,fun r hr=>?_,fun r p' hp=>?_,h.sp,h.ps,h.lf,h.fr,h.cl⟩
 ·rw [hl]
  exact h.th_upd (act':=Wi act i) (i:=i) (f:=askP m) (g:=fun u=>{ u with dst:=m.dst,mw:=m.words,item:=m.item,rt:=m.rt,frm:=m.frm,win:=m.win,wait:=m.wait }) (fun t' p hj _ q=>by
   rw [ht] at hj;cases hj
   exact ⟨q.sp,q.row,q.left,q.st,q.code,q.who,q.ws,q.got,fun a=>⟨(q.idle a).1,fun b=>absurd (.inr rfl) b⟩,fun _=>⟨rfl,rfl,rfl,fun _=>rfl,hw⟩,fun a=>absurd s1 a,fun _ b=>absurd (.inr rfl) b⟩) wi_ne
 ·refine (h.rows r hr).congr (fun j=>?_) (fun j _=>?_)
  ·show _↔Inrow (K.threads.modify i _) r j
   rw [inrow_mod ht]
   by_cases e:j=i
   ·subst e;rw [inrow_at ht];simp
   ·simp [e]
  ·show ordM (K.threads.modify i _) j=_
   rw [ordM_mod ht]
   split
   ·rename_i e;subst e;rw [ordM_at ht]
   ·rfl
 ·obtain ⟨p,hp,e1⟩:=wl_upd (M:=M) (f:=askP m) (fun _=>rfl) hp
  rw [e1]
  exact h.wlSame ht (.inl (by omega)) (g:=fun u=>{ u with dst:=m.dst,mw:=m.words,item:=m.item,rt:=m.rt,frm:=m.frm,win:=m.win,wait:=m.wait }) (.inl (by show t.st≠2;omega)) wi_ne hp
theorem Rel.setLeft (h:Rel act M K) (ht:K.threads[i]? = some t) (n:Int) (f:PT->PT) (hf:∀ p,M.threads[i]? = some p->f p={ p with left:=n }):Rel act (M.upd i f) (K.setLeft i n):=by
 have hl:(K.setLeft i n).threads.length=K.threads.length:=by simp [RM.setLeft,RM.upd]
 refine ⟨by rw [hl];simpa [PM.upd] using h.len,?_,fun r hr=>?_,fun r p' hp=>?_,h.sp,h.ps,h.lf,h.fr,h.cl⟩
 ·rw [hl]
  exact h.th_upd (act':=act) (i:=i) (f:=f) (g:=fun u=>{ u with left:=n }) (fun t' p hj hp q=>by
   rw [hf p hp]
   exact ⟨q.sp,q.row,rfl,q.st,q.code,q.who,q.ws,q.got,q.idle,q.talk,q.time,q.send⟩) (fun _ _=>Iff.rfl)
 ·refine (h.rows r hr).congr (fun j=>?_) (fun j _=>?_)
  ·show _↔Inrow (K.threads.modify i _) r j
   rw [inrow_mod ht]
   by_cases e:j=i
   ·subst e;rw [inrow_at ht];simp
   ·simp [e]
  ·show ordM (K.threads.modify i _) j=_
   rw [ordM_mod ht]
   split
   ·rename_i e;subst e;rw [ordM_at ht]
   ·rfl
 ·have hp2:(M.threads.modify i f)[r]? = some p':=hp
  have:∃ p,M.threads[r]? = some p/\p'.wl=p.wl:=by
   rw [List.getElem?_modify] at hp2
   rcases hy:M.threads[r]? with _ | y
   ·rw [hy] at hp2;simp at hp2
   ·rw [hy] at hp2
    by_cases e:i=r
    ·subst e
     simp at hp2
     exact ⟨y,rfl,by rw [<- hp2,hf y hy]⟩
    ·simp [e] at hp2;exact ⟨y,rfl,by rw [<- hp2]⟩
  obtain ⟨p,hp,e1⟩:=this
  rw [e1]
  refine (h.wl r p hp).congr (fun j=>?_) (fun j _=>?_)
  ·show _↔Inwl _ (K.threads.modify i _) r j
   rw [inwl_mod ht]
   by_cases e:j=i
   ·subst e;rw [inwl_at ht];simp
   ·simp [e]
  ·show turnM (K.threads.modify i _) j=_
   rw [turnM_mod ht]
   split
   ·rename_i e;subst e;rw [turnM_at ht]
   ·rfl
theorem Rel.toLast (h:Rel act M K) (ft:K.Fit){b:Nat}(nm:K.Num b) (ht:K.threads[i]? = some t) (s1:t.st=1):Rel act (M.setLn t.row.toNat ((M.ln t.row.toNat).erase i ++ [i])) (K.toLast i):=by
 have hl:(K.toLast i).threads.length=K.threads.length:=by simp [RM.toLast,RM.upd]
 refine ⟨by rw [hl];exact h.len,fun j t' p' hj hp=>?_,fun r hr=>?_,fun r p' hp=>?_,h.sp,h.ps,h.lf,h.fr,h.cl⟩
 ·rw [hl]
  have hj2:(K.threads.modify i (fun u=>{ u with ord:=K.last }))[j]? = some t':=hj
  rw [get_mod ht] at hj2
  split at hj2
  ·rename_i e
   subst e
   cases hj2
   have R:=h.th j t p' ht hp
   exact ⟨R.sp,R.row,R.left,R.st,R.code,R.who,R.ws,R.got,R.idle,R.talk,R.time,R.send⟩
  ·exact h.th j t' p' hj2 hp
 ·exact h.rowsLast ft nm ht (g:=fun u=>{ u with ord:=K.last }) s1 rfl rfl r hr
 ·exact h.wlSame ht (.inl (by omega)) (g:=fun u=>{ u with ord:=K.last }) (.inl (by show t.st≠2;omega)) (fun _ _=>Iff.rfl) hp
theorem Rel.clock (h:Rel act M K):Rel act { M with clock:=M.clock+1 } K.ticked:=⟨h.len,h.th,h.rows,h.wl,h.sp,h.ps,h.lf,h.fr,by show M.clock+1=K.clock+1;rw [h.cl]⟩
noncomputable def PM.heard (M:PM) (s r:Nat) (p q:PT) (stands:Bool):PM:=
 let M2:=({ M with leaves:=(lendP M.leaves p.sp p.item p.rt q.sp q.win).1 }:PM).upd s (fun p=>{ p with pw:=[],item:=0,rt:=0 })
 let M3:=if stands=true then M2 else M2.setLn q.row.toNat (r :: (M.ln q.row.toNat).erase r)
 M3.upd r (overP 0 s p.pw (lendP M.leaves p.sp p.item p.rt q.sp q.win).2)
theorem Rel.heard (h:Rel act M K) (ft:K.Fit){b:Nat}(nm:K.Num b){s r:Nat}{a c:Th}{p q:PT}(ha:K.threads[s]? = some a) (hc:K.threads[r]? = some c) (hp:M.threads[s]? = some p) (hq:M.threads[r]? = some q) (hsr:s≠r) (has:act s) (hcr:c.st=3\/act r) (par:Par a p) (stands:Bool) (hst:stands=true↔c.st=1) :
  Rel (Wo act r) (M.heard s r p q stands) (K.heard s r stands):=by
 have Ra:=h.th s a p ha hp
 have Rc:=h.th r c q hc hq
 have ta:=Rc.talk (hcr.imp (fun e=>by omega) id)
 have eL:lendL K.leaves a c=lendP M.leaves p.sp p.item p.rt q.sp q.win:=by rw [lendL_P,h.lf,Ra.sp,par.2.1,par.2.2.1,Rc.sp,ta.2.1]
 have h2:Rel act (M.upd s (fun p=>{ p with pw:=[],item:=0,rt:=0 })) K:=h.parcel has _ (fun p=>⟨p.tgt,[],0,0,rfl⟩)
 have ed:K.deliver s r={ K.upd r (fun u=>{ u with st:=1,time:=-1,code:=0,who:=s,ws:=a.mw,got:=(lendL K.leaves a c).2 }) with leaves:=(lendL K.leaves a c).1 }:=by
  unfold RM.deliver;rw [ha,hc]
 have hn2:c.st≠2\/act r:=hcr.imp (fun e=>by omega) id
 have thk:∀ g:Th->Th,(∀ u:Th,(g u).sp=u.sp/\(g u).row=u.row/\(g u).left=u.left/\(g u).st=1/\(g u).code=0/\(g u).who=s/\(g u).ws=a.mw/\(g u).got=(lendL K.leaves a c).2/\(g u).time=-1)->∀ (j:Nat) t' p',(K.threads.modify r g)[j]? = some t'->((M.upd s (fun p=>{ p with pw:=[],item:=0,rt:=0 })).threads.modify r (overP 0 s p.pw (lendP M.leaves p.sp p.item p.rt q.sp q.win).2))[j]? = some p'->RelT (Wo act r) K.threads.length j t' p':=by
  intro g hg
  refine h2.th_upd (act':=Wo act r) (i:=r) (fun t' p' _ _ R=>?_) wo_ne
  obtain ⟨g1,g2,g3,g4,g5,g6,g7,g8,g9⟩:=hg t'
  exact ⟨by rw [g1];exact R.sp,by rw [g2];exact R.row,by rw [g3];exact R.left,by rw [g4];rfl,by rw [g5];rfl,by rw [g6];rfl,by rw [g7,<- par.1];rfl,by rw [g8,eL];rfl,fun _=>⟨g9,fun _=>rfl⟩,fun e=>e.elim (fun e=>absurd g4 e) (fun e=>absurd rfl e.2),fun e=>absurd g4 e,fun e=>by omega⟩
 have hq2:∀ (j:Nat) p',((M.upd s (fun p=>{ p with pw:=[],item:=0,rt:=0 })).threads.modify r (overP 0 s p.pw (lendP M.leaves p.sp p.item p.rt q.sp q.win).2))[j]? = some p'->∃ y,(M.upd s (fun p=>{ p with pw:=[],item:=0,rt:=0 })).threads[j]? = some y/\p'.wl=y.wl:=fun j p' hj=>wl_upd (M:=M.upd s (fun p=>{ p with pw:=[],item:=0,rt:=0 })) (f:=overP 0 s p.pw (lendP M.leaves p.sp p.item p.rt q.sp q.win).2) (fun _=>rfl) hj
 by_cases e:stands=true
 ·have c1:=hst.1 e
  have ek:K.heard s r stands=K.deliver s r:=by unfold RM.heard;rw [if_pos e]
  have em:M.heard s r p q stands=(({ M with leaves:=(lendP M.leaves p.sp p.item p.rt q.sp q.win).1 }:PM).upd s (fun p=>{ p with pw:=[],item:=0,rt:=0 })).upd r (overP 0 s p.pw (lendP M.leaves p.sp p.item p.rt q.sp q.win).2):=by unfold PM.heard;simp only [e,if_true]
  rw [ek,ed,em]
  refine ⟨by simpa [PM.upd,RM.upd] using h.len,?_,fun r' hr=>?_,fun r' p' hp'=>?_,h.sp,h.ps,by rw [eL];rfl,h.fr,h.cl⟩
  ·intro j t' p' hj hp'
   have:=thk (fun u=>{ u with st:=1,time:=-1,code:=0,who:=s,ws:=a.mw,got:=(lendL K.leaves a c).2 }) (fun u=>⟨rfl,rfl,rfl,rfl,rfl,rfl,rfl,rfl,rfl⟩) j t' p' hj hp'
   simpa [RM.upd] using this
  ·refine (h.rows r' hr).congr (fun j=>?_) (fun j _=>?_)
   ·show _↔Inrow (K.threads.modify r _) r' j
    rw [inrow_mod hc]
    by_cases e:j=r
    ·subst e;rw [inrow_at hc];simp [c1]
    ·simp [e]
   ·show ordM (K.threads.modify r _) j=_
    rw [ordM_mod hc]
    split
    ·rename_i e;subst e;rw [ordM_at hc]
    ·rfl
  ·obtain ⟨y,hy,e1⟩:=hq2 r' p' hp'
   rw [e1]
   exact h2.wlSame hc hn2 (g:=fun u=>{ u with st:=1,time:=-1,code:=0,who:=s,ws:=a.mw,got:=(lendL K.leaves a c).2 }) (.inl (by simp)) wo_ne hy
 ·have c1:c.st≠1:=fun x=>e (hst.2 x)
  have ek:K.heard s r stands=(K.deliver s r).toFirst r:=by unfold RM.heard;rw [if_neg e]
  have em:M.heard s r p q stands=((({ M with leaves:=(lendP M.leaves p.sp p.item p.rt q.sp q.win).1 }:PM).upd s (fun p=>{ p with pw:=[],item:=0,rt:=0 })).setLn q.row.toNat (r :: (M.ln q.row.toNat).erase r)).upd r (overP 0 s p.pw (lendP M.leaves p.sp p.item p.rt q.sp q.win).2):=by unfold PM.heard;simp only [e];rfl
  have et:(K.heard s r stands).threads=K.threads.modify r (fun u=>{ u with st:=1,time:=-1,code:=0,who:=s,ws:=a.mw,got:=(lendL K.leaves a c).2,ord:=K.first }):=by
   rw [ek,ed]
   exact modify_two (h:=fun u:Th=>{ u with st:=1,time:=-1,code:=0,who:=s,ws:=a.mw,got:=(lendL K.leaves a c).2,ord:=K.first }) hc rfl
  have eo:(K.heard s r stands).sp=K.sp/\(K.heard s r stands).passes=K.passes/\(K.heard s r stands).leaves=(lendL K.leaves a c).1/\(K.heard s r stands).fr=K.fr/\(K.heard s r stands).clock=K.clock:=by rw [ek,ed];exact ⟨rfl,rfl,rfl,rfl,rfl⟩
  rw [em]
  refine ⟨by rw [et];simpa [PM.upd,PM.setLn] using h.len,?_,fun r' hr=>?_,fun r' p' hp'=>?_,by rw [eo.1];exact h.sp,by rw [eo.2.1];exact h.ps,by rw [eo.2.2.1,eL];rfl,by rw [eo.2.2.2.1];exact h.fr,by rw [eo.2.2.2.2];exact h.cl⟩
  ·rw [et]
   intro j t' p' hj hp'
   have:=thk (fun u=>{ u with st:=1,time:=-1,code:=0,who:=s,ws:=a.mw,got:=(lendL K.leaves a c).2,ord:=K.first }) (fun u=>⟨rfl,rfl,rfl,rfl,rfl,rfl,rfl,rfl,rfl⟩) j t' p' hj hp'
   simpa using this
  ·rw [et,Rc.row]
   exact h2.rowsFirst ft nm hc (g:=fun u=>{ u with st:=1,time:=-1,code:=0,who:=s,ws:=a.mw,got:=(lendL K.leaves a c).2,ord:=K.first }) rfl rfl rfl r' hr
  ·rw [et]
   obtain ⟨y,hy,e1⟩:=hq2 r' p' hp'
   rw [e1]
   exact h2.wlSame hc hn2 (g:=fun u=>{ u with st:=1,time:=-1,code:=0,who:=s,ws:=a.mw,got:=(lendL K.leaves a c).2,ord:=K.first }) (.inl (by simp)) wo_ne hy
end
open Go.RowKit
theorem find_app {L:List Lf}{s n:Int}(h:findLf L s n=none) (l:Lf) (h1:l.sp=s) (h2:l.pg=n) (a b:Int):findLf (L ++ [l]) a b=if s=a/\n=b then some l else findLf L a b:=by
 unfold findLf at *
 rw [List.find?_append]
 by_cases q:s=a/\n=b
 ·rw [if_pos q,<- q.1,<- q.2,h]
  simp [h1,h2]
 ·rw [if_neg q]
  have:(l.sp == a && l.pg == b)=false:=by simp;omega
  rw [List.find?_cons,this]
  simp
theorem gone_out (L:List Lf) (s n:Int):findLf (goneL L s n true) s n=none:=by rw [gone_own,find_out,if_pos ⟨rfl,rfl⟩]
theorem pageOf_any (B:Bk) (M:PM) (cs:Array Value) (rv:Nat->Value) (sl:List (Sv×Sv×Value)) (t:Nat) (p:PT) (a j:Nat) (w:World) (h:PmAt w B M cs rv sl) (hp:M.threads[t]? = some p) (ha:p.sp=a) (hs:a < M.sp.toNat) (hj:j < 6) :
  Calls Tryz.prog 171 #[.pointer (some ⟨B.x,0,none⟩),.pointer (some ⟨B.g,t*17,none⟩),.int .i64 j] w fun e w'=>e=.returned (.pointer (some ⟨B.gs,a*30+12+j*3,none⟩))/\Below w.heap.size w w':=by
 obtain ⟨s,hsl⟩:=h.sl_get hp
 have hc6:=(h.cell 6).trans h.c6
 have k0:=(h.tcell hp hsl 0 (by omega)).trans (show (prow p s)[0]? = some (.int .i64 p.sp) from rfl)
 rw [ha] at k0
 simp only [Nat.add_zero] at k0
 generalize hm:M.sp.toNat=m at *
 have hs':(a:Int) < (m:Int):=by omega
 have hj':(j:Int) < 6:=by omega
 clear h hp hsl hm ha
 go_enter Tryz.func171,Tryz.ntmps171
 go_wp2
 go_quiet (fail)
 go_wp2
 go_ret
 exact ⟨rfl,below_drewN (Below.refl _ _) _⟩
theorem and_zero (a:Int):bits .and .i64 0 a=0:=by
 show IntKind.i64.wrap ((BitVec.ofInt 64 0 &&& BitVec.ofInt 64 a).toNat:Int)=0
 have:(BitVec.ofInt 64 0 &&& BitVec.ofInt 64 a)=0:=by simp
 rw [this]
 rfl
theorem lend_any (B:Bk) (M:PM) (cs:Array Value) (rv:Nat->Value) (sl:List (Sv×Sv×Value)) (s r:Nat) (a b:PT) (w:World) (rk:Int->Int->Nat) (h:PmAt w B M cs rv sl) (ha:M.threads[s]? = some a) (hb:M.threads[r]? = some b) (ok:LOk rk M.sp M.leaves) (h3:M.sp<=3)
  (a0:0<=a.sp) (a1:a.sp<=M.sp-1) (b0:0<=b.sp) (b1:b.sp<=M.sp-1) (i0:-1<=a.item) (i1:a.item<=5) (w0:-1<=b.win) (w1:b.win<=5) :
  Calls Tryz.prog 165 #[.pointer (some ⟨B.x,0,none⟩),.pointer (some ⟨B.g,s*17,none⟩),.pointer (some ⟨B.g,r*17,none⟩)] w fun e w'=>e=.returned (.int .i64 (lendP M.leaves a.sp a.item a.rt b.sp b.win).2)/\Took B M (lendP M.leaves a.sp a.item a.rt b.sp b.win).1 cs rv sl w w':=by
 obtain ⟨sa,hsa⟩:=h.sl_get ha
 obtain ⟨sb,hsb⟩:=h.sl_get hb
 have R:=h.trange ha hsa
 have g9:=R 9 (.slice sa.2.1.a sa.2.1.n sa.2.1.c) rfl
 have g10:=R 10 (.int .i64 a.item) rfl
 have g11:=R 11 (.int .i64 a.rt) rfl
 have k13:=(h.tcell hb hsb 13 (by omega)).trans (show (prow b sb)[13]? = some (.int .i64 b.win) from rfl)
 have lx:=h.lx
 have lg:=h.lg
 clear R
 by_cases c1:a.item=-1\/b.win=-1
 ·have el:lendP M.leaves a.sp a.item a.rt b.sp b.win=(M.leaves,-1):=by unfold lendP;rw [if_pos (by omega)]
  rw [el]
  have HH:=hid h
  clear h ok ha hb hsa hsb
  by_cases d1:a.item=-1
  ·rw [d1] at g10
   clear d1 c1
   go_enter Tryz.func165,Tryz.ntmps165
   go_wp2
   go_region
   go_wp2
   go_ret
   exact ⟨rfl,(HH.out.alloc _).drew,((Fr.refl _ _).alloc _).drew⟩
  ·have d2:b.win=-1:=by omega
   have e1:(a.item == -1)=false:=by simpa using d1
   rw [d2] at k13
   generalize a.item=ai at *
   clear d1 d2 c1
   go_enter Tryz.func165,Tryz.ntmps165
   go_wp2
   go_region
   go_wp2
   go_ret
   exact ⟨rfl,(HH.out.alloc _).drew,((Fr.refl _ _).alloc _).drew⟩
 ·obtain ⟨ji,eji⟩:=Int.eq_ofNat_of_zero_le (show 0<=a.item by omega)
  obtain ⟨jw,ejw⟩:=Int.eq_ofNat_of_zero_le (show 0<=b.win by omega)
  obtain ⟨na,ena⟩:=Int.eq_ofNat_of_zero_le a0
  obtain ⟨nb,enb⟩:=Int.eq_ofNat_of_zero_le b0
  have lna:na < M.sp.toNat:=by omega
  have lnb:nb < M.sp.toNat:=by omega
  have lji:ji < 6:=by omega
  have ljw:jw < 6:=by omega
  have T:Hid (∀ w2,PmAt w2 B M cs rv sl->_):=fun w2 h2=>remove_of B M cs rv sl nb jw w2 lnb ljw (takeBack_any _ B M cs rv sl nb jw w2 rk h2 ok lnb ljw h3 (Nat.lt_succ_self _))
  have PB:Hid (∀ w2,PmAt w2 B M cs rv sl->_):=fun w2 h2=>pageOf_any B M cs rv sl r b nb jw w2 h2 hb enb lnb ljw
  obtain ⟨G,eG⟩:∃ G,goneL M.leaves nb jw true=G:=⟨_,rfl⟩
  rw [eG] at T
  have PA:Hid (∀ w2,PmAt w2 B { M with leaves:=G } cs rv sl->_):=fun w2 h2=>pageOf_any B { M with leaves:=G } cs rv sl s a na ji w2 h2 ha ena lna lji
  have hgo:findLf G nb jw=none:=by rw [<- eG];exact gone_out _ _ _
  have e1:(a.item == -1)=false:=by simp;omega
  have e2:(b.win == -1)=false:=by simp;omega
  rw [eji] at g10 e1
  rw [ejw] at k13 e2
  have HE:lendP M.leaves a.sp a.item a.rt b.sp b.win=if bits .and .i64 (lb (findLf G na ji)) a.rt=0 then (G,-1) else (G ++ [⟨nb,jw,la (findLf G na ji),bits .and .i64 (lb (findLf G na ji)) a.rt,na,ji⟩],(jw:Int)):=by
   unfold lendP
   rw [if_neg (by omega),eji,ejw,ena,enb,eG]
   cases hf:findLf G na ji with
   | none=>simp only [lb,and_zero,if_true]
   | some l=>rfl
  obtain ⟨LP,hLP⟩:∃ LP,lendP M.leaves a.sp a.item a.rt b.sp b.win=LP:=⟨_,rfl⟩
  rw [hLP] at HE ⊢
  replace HE:=hid HE
  have lgs:B.gs < w.heap.size:=h.ls
  have HH:=hid (And.intro h (And.intro lna (And.intro lnb (And.intro lji (And.intro ljw hgo)))))
  generalize a.rt=art at *
  clear h ok ha hb hsa hsb c1 eji ejw ena enb a0 a1 b0 b1 i0 i1 w0 w1 hgo eG hLP
  have H1:Hid (PmAt (w.alloc (.cells #[.slice sa.2.1.a sa.2.1.n sa.2.1.c,.int .i64 ji,.int .i64 art] 154)).drew B M cs rv sl):=(HH.out.1.alloc _).drew
  have hX:Hid ((w.alloc (.cells #[.slice sa.2.1.a sa.2.1.n sa.2.1.c,.int .i64 ji,.int .i64 art] 154)).drew.heap[w.heap.size]? = some (.cells #[.slice sa.2.1.a sa.2.1.n sa.2.1.c,.int .i64 ji,.int .i64 art] 154 (0,0))):=heap_alloc_new w _
  have F1:Hid (Fr (fun k=>k=B.gs) w (w.alloc (.cells #[.slice sa.2.1.a sa.2.1.n sa.2.1.c,.int .i64 ji,.int .i64 art] 154)).drew):=((Fr.refl _ _).alloc _).drew
  have z1:(w.alloc (.cells #[.slice sa.2.1.a sa.2.1.n sa.2.1.c,.int .i64 ji,.int .i64 art] 154)).drew.heap.size=w.heap.size+1:=by simp [World.drew]
  go_enter Tryz.func165,Tryz.ntmps165
  go_wp2
  go_region
  go_wp2_with fail
  generalize (w.alloc (.cells #[.slice sa.2.1.a sa.2.1.n sa.2.1.c,.int .i64 ji,.int .i64 art] 154)).drew=wa at *
  go_at_call 171
  refine (PB.out _ H1.out).mono ?_
  rintro e w2 ⟨rfl,B2⟩
  have H2:=hid (H1.out.below B2)
  have hX2:=hid ((B2.block w.heap.size (by omega)).trans hX.out)
  have F2:=hid (F1.out.trans (Fr.of_below B2 _))
  have z2:=B2.size
  clear B2 H1 hX F1 PB
  go_wp2_with fail
  go_at_call 144
  refine (T.out _ H2.out).mono ?_
  rintro e w3 ⟨rfl,H3⟩
  have hX3:=hid ((H3.2.block w.heap.size (by omega) (by omega)).trans hX2.out)
  have F3:=hid (F2.out.trans H3.2)
  have z3:=H3.2.size
  have q1:w3.cell? ⟨w.heap.size,1,none⟩=some (.int .i64 ji):=(cell_of_row w3 _ 1 _ _ _ hX3.out).trans rfl
  replace H3:=hid H3.1
  clear H2 hX2 F2 T
  go_wp2_with fail
  go_at_call 171
  refine (PA.out _ H3.out).mono ?_
  rintro e w4 ⟨rfl,B4⟩
  have H4:=hid (H3.out.below B4)
  have hX4:=hid ((B4.block w.heap.size (by omega)).trans hX3.out)
  have F4:=hid (F3.out.trans (Fr.of_below B4 _))
  have q2:w4.cell? ⟨w.heap.size,2,none⟩=some (.int .i64 art):=(cell_of_row w4 _ 2 _ _ _ hX4.out).trans rfl
  have q0:=(H4.out.pageC (s:=na) (j:=ji) HH.out.2.1 HH.out.2.2.2.1).1
  have q3:=(H4.out.pageC (s:=na) (j:=ji) HH.out.2.1 HH.out.2.2.2.1).2.1
  have r0:=(H4.out.pageC (s:=nb) (j:=jw) HH.out.2.2.1 HH.out.2.2.2.2.1).1
  have r1:=(H4.out.pageC (s:=nb) (j:=jw) HH.out.2.2.1 HH.out.2.2.2.2.1).2.1
  have r2:=(H4.out.pageC (s:=nb) (j:=jw) HH.out.2.2.1 HH.out.2.2.2.2.1).2.2
  have fz:=H4.out.sfro
  simp only at q0 q3 r0 r1 r2
  clear B4 H3 hX3 F3 PA q1 z2 z3
  obtain ⟨LB,hlb⟩:∃ LB,lb (findLf G na ji)=LB:=⟨_,rfl⟩
  obtain ⟨LA,hla⟩:∃ LA,la (findLf G na ji)=LA:=⟨_,rfl⟩
  rw [hlb] at q3
  rw [hla] at q0
  have HL:=hid (And.intro hlb hla)
  clear hlb hla
  by_cases c0:bits .and .i64 LB art=0
  ·have d:(bits .and .i64 LB art == 0)=true:=by simpa using c0
   have HC:=hid c0
   clear c0
   go_wp2
   go_region
   go_wp2
   go_ret
   rw [HE.out,HL.out.1,HL.out.2,if_pos HC.out]
   exact ⟨rfl,H4.out.drew,F4.out.drew⟩
  ·have d:(bits .and .i64 LB art == 0)=false:=by simpa using c0
   have HC:=hid c0
   clear c0
   go_wp2
   go_region
   go_wp2
   go_ret
   rw [HE.out,HL.out.1,HL.out.2,if_neg HC.out]
   have P:=H4.out.setPage (s:=nb) (j:=jw) (o:=some ⟨nb,jw,LA,bits .and .i64 LB art,na,ji⟩) (L':=G ++ [⟨nb,jw,LA,bits .and .i64 LB art,na,ji⟩]) HH.out.2.2.1 HH.out.2.2.2.2.1 (fun x y=>find_app HH.out.2.2.2.2.2 _ rfl rfl x y)
   exact ⟨rfl,P.1.drew,(F4.out.trans P.2).drew⟩
end Go.Proofs.YteejjgbeknnmeaaGreatDoor
