import Derived.Test.YteejjgbeknnmeaaGreatDoorJ01
namespace Go.Proofs.YteejjgbeknnmeaaGreatDoor
open Go.RowKit
def thOf (u:Int×Int×Int×Int):Th:={ sp:=u.1,row:=u.2.1,st:=1,ord:=u.2.2.1,left:=u.2.2.2,dst:=0,mw:=[],item:=0,rt:=0,frm:=0,win:=0,wait:=0,lends:=false,other:=0,turn:=0,time:=-1,code:=0,who:=-1,ws:=[],got:=-1 }
def lfOf (p:Int×Int×Int×Int):Lf:=⟨p.1,p.2.1,p.2.2.1,p.2.2.2,-1,-1⟩
def RK.up (K:RK):RM:=⟨K.threads.map thOf,K.sp,K.passes,K.leaves.map lfOf,K.fr,K.clock,-1,K.last⟩
theorem born_at {T:List (Int×Int)}:∀ (i0 i:Nat) u,(born i0 T)[i]? = some u->∃ p,T[i]? = some p/\u.1=p.1/\u.2.1=p.2/\u.2.2.2=3:=by
 induction T with
 | nil=>intro i0 i u h;simp [born] at h
 | cons p r ih=>
  intro i0 i u h
  cases i with
  | zero=>simp [born] at h;exact ⟨p,rfl,by rw [<- h],by rw [<- h],by rw [<- h]⟩
  | succ i=>
   simp [born] at h
   obtain ⟨q,h1,h2⟩:=ih _ _ _ h
   exact ⟨q,by simpa using h1,h2⟩
theorem new_fit {sp:Int}{T:List (Int×Int)}{Q L:List (Int×Int×Int×Int)}(h:Fits sp T Q L):(RK.new sp T Q L).up.Fit:=by
 obtain ⟨⟨s1,s2⟩,⟨t1,t2⟩,ot,oq,aq,ol,al⟩:=h
 have hl:(RK.new sp T Q L).up.threads.length=T.length:=by simp [RK.up,RK.new,born_length]
 refine ⟨by omega,by omega,s1,s2,fun i t ht=>?_,?_,⟨fun _ _=>0,fun l hl=>?_⟩,fun l hl=>?_⟩
 ·have ht2:((born 0 T).map thOf)[i]? = some t:=ht
  rw [List.getElem?_map] at ht2
  rcases hx:(born 0 T)[i]? with _ | u
  ·rw [hx] at ht2;simp at ht2
  ·rw [hx] at ht2
   simp at ht2
   obtain ⟨p,hp,e1,e2,e3⟩:=born_at 0 i u hx
   have:=ot i p hp
   rw [<- ht2]
   unfold okT at this
   exact ⟨by show 0<=u.1;omega,by show u.1<=sp-1;omega,by show 0<=u.2.1;omega,by show u.2.1<=3;omega,by show 1<=u.2.2.2;omega,by show u.2.2.2<=3;omega,by simp [thOf],by simp [thOf],by simp [thOf],.inl rfl,fun g=>by simp [thOf] at g⟩
 ·show (L.map lfOf).Pairwise _
  rw [List.pairwise_map]
  exact (apart_iff L).1 al
 ·obtain ⟨p,hp,rfl⟩:=List.mem_map.1 (show l∈L.map lfOf from hl)
  obtain ⟨i,hi⟩:=List.getElem?_of_mem hp
  exact ⟨(ol i p hi).1,.inl ⟨rfl,rfl⟩⟩
 ·obtain ⟨p,hp,rfl⟩:=List.mem_map.1 (show l∈L.map lfOf from hl)
  obtain ⟨i,hi⟩:=List.getElem?_of_mem hp
  exact ⟨(ol i p hi).2.1,(ol i p hi).2.2.1,(ol i p hi).2.2.2.1⟩
theorem RM.Fit.recv {K:RM}(h:K.Fit):∀ (n:Nat) (t:Nat) (stands:Bool),(K.recv n t stands).Fit:=by
 intro n
 induction n generalizing K with
 | zero=>intro t stands;exact h
 | succ n ih=>
  intro t stands
  simp only [RM.recv]
  split
  ·exact h
  ·split
   ·split
    ·exact h.waits t 3 (-1) (.inr rfl) (fun g=>by simp at g)
    ·split
     ·exact h.over t 5
     ·exact (h.over t 5).toLast t
   ·split
    ·exact h.heard _ _ _
    ·split
     ·exact ih (h.heard _ _ _) _ _
     ·split
      ·exact (h.heard _ _ _).over _ _
      ·exact ((h.heard _ _ _).over _ _).toLast _
theorem RM.Fit.goes {K:RM}(h:K.Fit) (n s:Nat) (stands:Bool):(K.goes n s stands).Fit:=by
 unfold RM.goes
 split
 ·exact h
 ·split
  ·exact h.recv n s stands
  ·split
   ·exact h.over s 0
   ·exact (h.over s 0).toLast s
theorem RM.Fit.spent {K:RM}(h:K.Fit):K.spent.Fit:=by
 unfold RM.spent
 split
 ·exact h
 ·rename_i u hu
  have f:=h.th _ u hu
  split
  ·exact h
  ·split
   ·exact (h.setLeft _ 3 (by omega) (by omega)).toLast _
   ·exact h.setLeft _ _ (by have:=f.l0;omega) (by have:=f.l1;omega)
theorem RM.Fit.tick {K:RM}(h:K.Fit):K.tick.Fit:=(h.nums _ _ _).spent.tickTo _
theorem RM.Fit.yield {K:RM}(h:K.Fit):K.yield.2.Fit:=by
 unfold RM.yield
 split
 ·exact h
 ·exact (h.setLeft _ 3 (by omega) (by omega)).toLast _
theorem RM.Fit.stored {K:RM}(h:K.Fit) (pg ce n:Int):(K.stored pg ce n).Fit:=by
 unfold RM.stored
 split
 ·exact ⟨h.one,h.six,h.sp1,h.sp3,h.th,h.ap,h.kin,h.lf⟩
 ·exact h
theorem RM.Fit.unmap {K:RM}(h:K.Fit) (pg:Int) (own:Bool):(K.unmap pg own).2.Fit:=by
 unfold RM.unmap
 split
 ·exact h
 ·split
  ·split
   ·obtain ⟨r,hr⟩:=h.kin
    exact h.setL _ (gone_apl h.ap _ _ _) ⟨r,gone_kin hr _ _ _⟩ (fun l hl=>h.lf l (mem_gone.1 hl).1)
   ·exact h
  ·exact h
open Go.RowKit
structure Clo (P:Nat->RM->Prop):Prop where
 mono:∀ b c K,b<=c->P b K->P c K
 over:∀ b K t e,P b K->P b (K.over t e)
 toFirst:∀ b K t,P b K->P (b+1) (K.toFirst t)
 toLast:∀ b K t,P b K->P (b+1) (K.toLast t)
 waits:∀ b K t st o,P b K->(st=2\/st=3)->P (b+1) (K.waits t st o)
 deliver:∀ b K s r,P b K->P b (K.deliver s r)
 asks:∀ b K t m,P b K->P b (K.asks t m)
 lendsTo:∀ b K t x,P b K->P b (K.lendsTo t x)
 setLeft:∀ b K t n,P b K->P b (K.setLeft t n)
section
variable {P:Nat->RM->Prop}(C:Clo P)
include C
theorem Clo.heard {b:Nat}{K:RM}(s t:Nat) (stands:Bool) (h:P b K):P (b+1) (K.heard s t stands):=by
 unfold RM.heard
 split
 ·exact C.mono _ _ _ (by omega) (C.deliver _ _ _ _ h)
 ·exact C.toFirst _ _ _ (C.deliver _ _ _ _ h)
theorem Clo.recv:∀ (n b:Nat) (K:RM) (t:Nat) (stands:Bool),P b K->P (b+n+1) (K.recv n t stands):=by
 intro n
 induction n with
 | zero=>intro b K t stands h;exact C.mono _ _ _ (by omega) h
 | succ n ih=>
  intro b K t stands h
  simp only [RM.recv]
  split
  ·exact C.mono _ _ _ (by omega) h
  ·split
   ·split
    ·exact C.mono _ _ _ (by omega) (C.waits _ _ _ _ _ h (.inr rfl))
    ·split
     ·exact C.mono _ _ _ (by omega) (C.over _ _ _ _ h)
     ·exact C.mono _ _ _ (by omega) (C.toLast _ _ _ (C.over _ _ _ _ h))
   ·split
    ·exact C.mono _ _ _ (by omega) (C.heard _ _ _ h)
    ·split
     ·exact C.mono _ _ _ (by omega) (ih _ _ _ _ (C.heard _ _ _ h))
     ·split
      ·exact C.mono _ _ _ (by omega) (C.over _ _ _ _ (C.heard _ _ _ h))
      ·exact C.mono _ _ _ (by omega) (C.toLast _ _ _ (C.over _ _ _ _ (C.heard _ _ _ h)))
theorem Clo.goes {b:Nat}{K:RM}(n s:Nat) (stands:Bool) (h:P b K):P (b+n+1) (K.goes n s stands):=by
 unfold RM.goes
 split
 ·exact C.mono _ _ _ (by omega) h
 ·split
  ·exact C.recv _ _ _ _ _ h
  ·split
   ·exact C.mono _ _ _ (by omega) (C.over _ _ _ _ h)
   ·exact C.mono _ _ _ (by omega) (C.toLast _ _ _ (C.over _ _ _ _ h))
theorem Clo.sends {b:Nat}{K:RM}(t r:Nat) (m:Ms) (h:P b K):P (b+9) (K.sends t r m):=by
 unfold RM.sends
 split
 ·exact C.mono _ _ _ (by omega) h
 ·split
  ·exact C.goes 7 _ _ (C.toFirst _ _ _ (C.deliver _ _ _ _ h))
  ·split
   ·exact C.mono _ _ _ (by omega) (C.over _ _ _ _ h)
   ·exact C.mono _ _ _ (by omega) (C.waits _ _ _ _ _ h (.inl rfl))
theorem Clo.ipc {b:Nat}{K:RM}(m:Ms) (h:P b K):P (b+9) (K.ipc m).2:=by
 unfold RM.ipc
 have ho:=C.over _ _ K.cur.toNat 4 (C.asks _ _ K.cur.toNat m h)
 split
 ·exact C.mono _ _ _ (by omega) h
 ·split
  ·exact C.mono _ _ _ (by omega) h
  ·split
   ·exact C.mono _ _ _ (by omega) (C.recv 7 _ _ _ _ (C.asks _ _ _ m h))
   ·split
    ·exact C.mono _ _ _ (by omega) h
    ·split
     ·exact C.mono _ _ _ (by omega) ho
     ·split
      ·exact C.mono _ _ _ (by omega) ho
      ·exact C.sends _ _ _ (C.lendsTo _ _ _ _ (C.asks _ _ _ m h))
theorem Clo.tickTo {b:Nat}{K:RM}(h:P b K):∀ i,P (b+i) (K.tickTo i)
 | 0=>h
 | i+1=>by
  have ih:=Clo.tickTo h i
  simp only [RM.tickTo]
  split
  ·exact C.mono _ _ _ (by omega) ih
  ·split
   ·exact C.toLast _ _ _ (C.over _ _ _ _ ih)
   ·exact C.mono _ _ _ (by omega) ih
theorem Clo.spent {b:Nat}{K:RM}(h:P b K):P (b+1) K.spent:=by
 unfold RM.spent
 split
 ·exact C.mono _ _ _ (by omega) h
 ·split
  ·exact C.mono _ _ _ (by omega) h
  ·split
   ·exact C.toLast _ _ _ (C.setLeft _ _ _ _ h)
   ·exact C.mono _ _ _ (by omega) (C.setLeft _ _ _ _ h)
theorem Clo.yield {b:Nat}{K:RM}(h:P b K):P (b+1) K.yield.2:=by
 unfold RM.yield
 split
 ·exact C.mono _ _ _ (by omega) h
 ·exact C.toLast _ _ _ (C.setLeft _ _ _ _ h)
end
structure RM.Num (b:Nat) (K:RM):Prop where
 f0:-(b:Int)<=K.first
 f1:K.first<=-1
 a0:0<=K.last
 a1:K.last<=b
 o0:∀ (i:Nat) u,K.threads[i]? = some u->K.first < u.ord/\u.ord < K.last
 o1:∀ (i j:Nat) u v,K.threads[i]? = some u->K.threads[j]? = some v->u.ord=v.ord->i=j
 t0:∀ (i:Nat) u,K.threads[i]? = some u->u.st≠1->K.first < u.turn/\u.turn < K.last
 t1:∀ (i j:Nat) u v,K.threads[i]? = some u->K.threads[j]? = some v->u.st≠1->v.st≠1->u.turn=v.turn->i=j
theorem upd_get {K:RM}{r:Nat}{f:Th->Th}{i:Nat}{t:Th}(h:(K.upd r f).threads[i]? = some t):∃ x,K.threads[i]? = some x/\((i=r/\t=f x)\/(i≠r/\t=x)):=by
 have ht2:(K.threads.modify r f)[i]? = some t:=h
 rw [List.getElem?_modify] at ht2
 rcases hx:K.threads[i]? with _ | x
 ·rw [hx] at ht2;simp at ht2
 ·rw [hx] at ht2
  refine ⟨x,rfl,?_⟩
  by_cases e:r=i
  ·subst e
   simp at ht2
   exact .inl ⟨rfl,ht2.symm⟩
  ·simp [e] at ht2
   exact .inr ⟨fun g=>e g.symm,ht2.symm⟩
theorem RM.Num.upd {b:Nat}{K:RM}(h:K.Num b) (r:Nat) (f:Th->Th) (ho:∀ u,(f u).ord=u.ord) (hs:∀ u,(f u).st=1\/((f u).st=u.st/\(f u).turn=u.turn)):(K.upd r f).Num b:=by
 refine ⟨h.f0,h.f1,h.a0,h.a1,fun i u hu=>?_,fun i j u v hu hv e=>?_,fun i u hu hs1=>?_,fun i j u v hu hv s1 s2 e=>?_⟩
 ·obtain ⟨x,hx,⟨_,rfl⟩ | ⟨_,rfl⟩⟩:=upd_get hu
  ·rw [ho];exact h.o0 i x hx
  ·exact h.o0 i u hx
 ·obtain ⟨x,hx,c1⟩:=upd_get hu
  obtain ⟨z,hz,c2⟩:=upd_get hv
  have e1:u.ord=x.ord:=by rcases c1 with ⟨_,rfl⟩ | ⟨_,rfl⟩;exact ho x;rfl
  have e2:v.ord=z.ord:=by rcases c2 with ⟨_,rfl⟩ | ⟨_,rfl⟩;exact ho z;rfl
  exact h.o1 i j x z hx hz (by rw [<- e1,<- e2,e])
 ·obtain ⟨x,hx,⟨_,rfl⟩ | ⟨_,rfl⟩⟩:=upd_get hu
  ·rcases hs x with g | ⟨g1,g2⟩
   ·exact absurd g hs1
   ·rw [g2];exact h.t0 i x hx (by rw [<- g1];exact hs1)
  ·exact h.t0 i u hx hs1
 ·obtain ⟨x,hx,c1⟩:=upd_get hu
  obtain ⟨z,hz,c2⟩:=upd_get hv
  have e1:u.turn=x.turn/\x.st≠1:=by
   rcases c1 with ⟨_,rfl⟩ | ⟨_,rfl⟩
   ·rcases hs x with g | ⟨g1,g2⟩
    ·exact absurd g s1
    ·exact ⟨g2,by rw [<- g1];exact s1⟩
   ·exact ⟨rfl,s1⟩
  have e2:v.turn=z.turn/\z.st≠1:=by
   rcases c2 with ⟨_,rfl⟩ | ⟨_,rfl⟩
   ·rcases hs z with g | ⟨g1,g2⟩
    ·exact absurd g s2
    ·exact ⟨g2,by rw [<- g1];exact s2⟩
   ·exact ⟨rfl,s2⟩
  exact h.t1 i j x z hx hz e1.2 e2.2 (by rw [<- e1.1,<- e2.1,e])
theorem RM.Num.same {b:Nat}{K K':RM}(h:K.Num b) (ht:K'.threads=K.threads) (hf:K'.first=K.first) (hl:K'.last=K.last):K'.Num b:=
 ⟨hf ▸ h.f0,hf ▸ h.f1,hl ▸ h.a0,hl ▸ h.a1,by rw [ht,hf,hl];exact h.o0,by rw [ht];exact h.o1,by rw [ht,hf,hl];exact h.t0,by rw [ht];exact h.t1⟩
theorem num_clo:Clo (fun b K=>K.Num b):=by
 refine ⟨fun b c K hb h=>⟨by have:=h.f0;omega,h.f1,h.a0,by have:=h.a1;omega,h.o0,h.o1,h.t0,h.t1⟩,fun b K t e h=>h.upd t _ (fun _=>rfl) (fun _=>.inl rfl),fun b K t h=>?_,fun b K t h=>?_,fun b K t st o h hst=>?_,fun b K s r h=>?_,fun b K t m h=>h.upd t _ (fun _=>rfl) (fun _=>.inr ⟨rfl,rfl⟩),fun b K t m h=>h.upd t _ (fun _=>rfl) (fun _=>.inr ⟨rfl,rfl⟩),fun b K t m h=>h.upd t _ (fun _=>rfl) (fun _=>.inr ⟨rfl,rfl⟩)⟩
 ·have hf0:=h.f0
  have hf1:=h.f1
  have ha0:=h.a0
  have ha1:=h.a1
  refine ⟨by show _<=K.first-1;omega,by show K.first-1<=_;omega,h.a0,by show K.last<=_;omega,fun i u hu=>?_,fun i j u v hu hv e=>?_,fun i u hu hs1=>?_,fun i j u v hu hv s1 s2 e=>?_⟩
  ·obtain ⟨x,hx,⟨_,rfl⟩ | ⟨_,rfl⟩⟩:=upd_get (K:=K) hu
   ·show K.first-1 < K.first/\K.first < K.last;omega
   ·have:=h.o0 i u hx;show K.first-1 < u.ord/\u.ord < K.last;omega
  ·obtain ⟨x,hx,c1⟩:=upd_get (K:=K) hu
   obtain ⟨z,hz,c2⟩:=upd_get (K:=K) hv
   have g1:=h.o0 i x hx
   have g2:=h.o0 j z hz
   rcases c1 with ⟨i1,rfl⟩ | ⟨i1,rfl⟩ <;> rcases c2 with ⟨i2,rfl⟩ | ⟨i2,rfl⟩
   ·omega
   ·dsimp only at e;omega
   ·dsimp only at e;omega
   ·exact h.o1 i j u v hx hz e
  ·obtain ⟨x,hx,⟨_,rfl⟩ | ⟨_,rfl⟩⟩:=upd_get (K:=K) hu
   ·have:=h.t0 i x hx hs1;show K.first-1 < x.turn/\x.turn < K.last;omega
   ·have:=h.t0 i u hx hs1;show K.first-1 < u.turn/\u.turn < K.last;omega
  ·obtain ⟨x,hx,c1⟩:=upd_get (K:=K) hu
   obtain ⟨z,hz,c2⟩:=upd_get (K:=K) hv
   have e1:u.turn=x.turn/\x.st≠1:=by rcases c1 with ⟨_,rfl⟩ | ⟨_,rfl⟩ <;> exact ⟨rfl,s1⟩
   have e2:v.turn=z.turn/\z.st≠1:=by rcases c2 with ⟨_,rfl⟩ | ⟨_,rfl⟩ <;> exact ⟨rfl,s2⟩
   exact h.t1 i j x z hx hz e1.2 e2.2 (by rw [<- e1.1,<- e2.1,e])
 ·have hf0:=h.f0
  have hf1:=h.f1
  have ha0:=h.a0
  have ha1:=h.a1
  refine ⟨by show _<=K.first;omega,h.f1,by show 0<=K.last+1;omega,by show K.last+1<=_;omega,fun i u hu=>?_,fun i j u v hu hv e=>?_,fun i u hu hs1=>?_,fun i j u v hu hv s1 s2 e=>?_⟩
  ·obtain ⟨x,hx,⟨_,rfl⟩ | ⟨_,rfl⟩⟩:=upd_get (K:=K) hu
   ·show K.first < K.last/\K.last < K.last+1;omega
   ·have:=h.o0 i u hx;show K.first < u.ord/\u.ord < K.last+1;omega
  ·obtain ⟨x,hx,c1⟩:=upd_get (K:=K) hu
   obtain ⟨z,hz,c2⟩:=upd_get (K:=K) hv
   have g1:=h.o0 i x hx
   have g2:=h.o0 j z hz
   rcases c1 with ⟨i1,rfl⟩ | ⟨i1,rfl⟩ <;> rcases c2 with ⟨i2,rfl⟩ | ⟨i2,rfl⟩
   ·omega
   ·dsimp only at e;omega
   ·dsimp only at e;omega
   ·exact h.o1 i j u v hx hz e
  ·obtain ⟨x,hx,⟨_,rfl⟩ | ⟨_,rfl⟩⟩:=upd_get (K:=K) hu
   ·have:=h.t0 i x hx hs1;show K.first < x.turn/\x.turn < K.last+1;omega
   ·have:=h.t0 i u hx hs1;show K.first < u.turn/\u.turn < K.last+1;omega
  ·obtain ⟨x,hx,c1⟩:=upd_get (K:=K) hu
   obtain ⟨z,hz,c2⟩:=upd_get (K:=K) hv
   have e1:u.turn=x.turn/\x.st≠1:=by rcases c1 with ⟨_,rfl⟩ | ⟨_,rfl⟩ <;> exact ⟨rfl,s1⟩
   have e2:v.turn=z.turn/\z.st≠1:=by rcases c2 with ⟨_,rfl⟩ | ⟨_,rfl⟩ <;> exact ⟨rfl,s2⟩
   exact h.t1 i j x z hx hz e1.2 e2.2 (by rw [<- e1.1,<- e2.1,e])
 ·have hf0:=h.f0
  have hf1:=h.f1
  have ha0:=h.a0
  have ha1:=h.a1
  refine ⟨by show _<=K.first;omega,h.f1,by show 0<=K.last+1;omega,by show K.last+1<=_;omega,fun i u hu=>?_,fun i j u v hu hv e=>?_,fun i u hu hs1=>?_,fun i j u v hu hv s1 s2 e=>?_⟩
  ·obtain ⟨x,hx,⟨_,rfl⟩ | ⟨_,rfl⟩⟩:=upd_get (K:=K) hu
   ·have:=h.o0 i x hx;show K.first < x.ord/\x.ord < K.last+1;omega
   ·have:=h.o0 i u hx;show K.first < u.ord/\u.ord < K.last+1;omega
  ·obtain ⟨x,hx,c1⟩:=upd_get (K:=K) hu
   obtain ⟨z,hz,c2⟩:=upd_get (K:=K) hv
   have e1:u.ord=x.ord:=by rcases c1 with ⟨_,rfl⟩ | ⟨_,rfl⟩ <;> rfl
   have e2:v.ord=z.ord:=by rcases c2 with ⟨_,rfl⟩ | ⟨_,rfl⟩ <;> rfl
   exact h.o1 i j x z hx hz (by rw [<- e1,<- e2,e])
  ·obtain ⟨x,hx,⟨_,rfl⟩ | ⟨_,rfl⟩⟩:=upd_get (K:=K) hu
   ·show K.first < K.last/\K.last < K.last+1;omega
   ·have:=h.t0 i u hx hs1;show K.first < u.turn/\u.turn < K.last+1;omega
  ·obtain ⟨x,hx,c1⟩:=upd_get (K:=K) hu
   obtain ⟨z,hz,c2⟩:=upd_get (K:=K) hv
   rcases c1 with ⟨i1,rfl⟩ | ⟨i1,rfl⟩ <;> rcases c2 with ⟨i2,rfl⟩ | ⟨i2,rfl⟩
   ·omega
   ·have g2:=h.t0 j v hz s2;dsimp only at e;omega
   ·have g1:=h.t0 i u hx s1;dsimp only at e;omega
   ·exact h.t1 i j u v hx hz s1 s2 e
 ·unfold RM.deliver
  split
  ·rename_i a x _ _
   exact (h.upd r (fun u=>{ u with st:=1,time:=-1,code:=0,who:=s,ws:=a.mw,got:=(lendL K.leaves a x).2 }) (fun _=>rfl) (fun _=>.inl rfl)).same rfl rfl rfl
  ·exact h
theorem Clo.tick {P:Nat->RM->Prop}(C:Clo P){b:Nat}{K:RM}(h:P b K.ticked):P (b+1+K.threads.length) K.tick:=C.tickTo (C.spent h) _
theorem RM.Num.tick {b:Nat}{K:RM}(h:K.Num b) (h6:K.threads.length<=6):K.tick.Num (b+7):=num_clo.mono _ _ _ (by omega) (num_clo.tick (b:=b) (K:=K) (h.same rfl rfl rfl))
structure Same (K K':RM):Prop where
 len:K'.threads.length=K.threads.length
 sp:K'.sp=K.sp
 ps:K'.passes=K.passes
 fr:K'.fr=K.fr
 cl:K'.clock=K.clock
 hm:∀ (i:Nat) u,K'.threads[i]? = some u->∃ x,K.threads[i]? = some x/\u.sp=x.sp/\u.row=x.row
theorem Same.refl (K:RM):Same K K:=⟨rfl,rfl,rfl,rfl,rfl,fun _ u h=>⟨u,h,rfl,rfl⟩⟩
theorem Same.upd {K0 K K':RM}(h:Same K0 K){r:Nat}{f:Th->Th}(ht:K'.threads=K.threads.modify r f) (h1:K'.sp=K.sp) (h2:K'.passes=K.passes) (h3:K'.fr=K.fr) (h4:K'.clock=K.clock) (hf:∀ u,(f u).sp=u.sp/\(f u).row=u.row):Same K0 K':=by
 refine ⟨by rw [ht];simp [h.len],h1.trans h.sp,h2.trans h.ps,h3.trans h.fr,h4.trans h.cl,fun i u hu=>?_⟩
 rw [ht] at hu
 obtain ⟨x,hx,c⟩:=upd_get (K:=K) (f:=f) hu
 obtain ⟨z,hz,e1,e2⟩:=h.hm i x hx
 refine ⟨z,hz,?_⟩
 rcases c with ⟨_,rfl⟩ | ⟨_,rfl⟩
 ·rw [(hf x).1,(hf x).2];exact ⟨e1,e2⟩
 ·exact ⟨e1,e2⟩
theorem same_clo (K0:RM):Clo (fun _ K=>Same K0 K):=by
 refine ⟨fun _ _ _ _ h=>h,fun b K t e h=>h.upd rfl rfl rfl rfl rfl (by intro u;exact ⟨rfl,rfl⟩),fun b K t h=>h.upd rfl rfl rfl rfl rfl (by intro u;exact ⟨rfl,rfl⟩),fun b K t h=>h.upd rfl rfl rfl rfl rfl (by intro u;exact ⟨rfl,rfl⟩),fun b K t st o h _=>h.upd rfl rfl rfl rfl rfl (by intro u;exact ⟨rfl,rfl⟩),fun b K s r h=>?_,fun b K t m h=>h.upd rfl rfl rfl rfl rfl (by intro u;exact ⟨rfl,rfl⟩),fun b K t m h=>h.upd rfl rfl rfl rfl rfl (by intro u;exact ⟨rfl,rfl⟩),fun b K t m h=>h.upd rfl rfl rfl rfl rfl (by intro u;exact ⟨rfl,rfl⟩)⟩
 unfold RM.deliver
 split
 ·exact h.upd rfl rfl rfl rfl rfl (by intro u;exact ⟨rfl,rfl⟩)
 ·exact h
theorem and3 {r a:Int}(h1:1<=r) (h3:r<=3) (hz:¬ bits .and .i64 r a=0):1<=bits .and .i64 r a/\bits .and .i64 r a<=3:=by
 have hn:(BitVec.ofInt 64 r &&& BitVec.ofInt 64 a).toNat<=3:=by
  rw [BitVec.toNat_and]
  refine Nat.le_trans Nat.and_le_left ?_
  have:r=1\/r=2\/r=3:=by omega
  rcases this with rfl | rfl | rfl <;> decide
 have hb:bits .and .i64 r a=IntKind.i64.wrap ((BitVec.ofInt 64 r &&& BitVec.ofInt 64 a).toNat:Int):=rfl
 generalize (BitVec.ofInt 64 r &&& BitVec.ofInt 64 a).toNat=n at hb hn
 have hw:IntKind.i64.wrap (n:Int)=n:=by
  have:n=0\/n=1\/n=2\/n=3:=by omega
  rcases this with rfl | rfl | rfl | rfl <;> rfl
 rw [hb,hw] at hz ⊢
 omega
def okLf (l:Lf):Prop:=0<=l.fr/\l.fr<=7/\1<=l.rt/\l.rt<=3
theorem lend_ok {L:List Lf}(h:∀ l∈L,okLf l) (a b:Th):∀ l∈(lendL L a b).1,okLf l:=by
 have hg:∀ l∈goneL L b.sp b.win true,okLf l:=fun l hl=>h l (mem_gone.1 hl).1
 unfold lendL
 split
 ·exact h
 ·split
  ·exact hg
  ·rename_i l hl
   have hm:=hg l (List.mem_of_find?_eq_some hl)
   split
   ·exact hg
   ·rename_i hz
    intro q hq
    rcases List.mem_append.1 hq with hq | hq
    ·exact hg q hq
    ·rw [List.mem_singleton] at hq
     rw [hq]
     refine ⟨hm.1,hm.2.1,?_⟩
     exact and3 hm.2.2.1 hm.2.2.2 hz
theorem leaf_clo:Clo (fun _ K=>∀ l∈K.leaves,okLf l):=by
 refine ⟨fun _ _ _ _ h=>h,fun b K t e h=>h,fun b K t h=>h,fun b K t h=>h,fun b K t st o h _=>h,fun b K s r h=>?_,fun b K t m h=>h,fun b K t m h=>h,fun b K t m h=>h⟩
 unfold RM.deliver
 split
 ·exact lend_ok h _ _
 ·exact h
open Go.RowKit
structure RM.Ok (K:RM) (n:Nat):Prop where
 ft:K.Fit
 nm:K.Num (16*n+16)
 ap:Apart K.passes
 oq:∀ (i:Nat) p,K.passes[i]? = some p->okQ K.sp ((K.threads.length:Int)-1) p
 lf:∀ l∈K.leaves,okLf l
 c0:0<=K.clock
 c1:K.clock<=n
theorem q18 {sp h:Int}{Q:List (Int×Int×Int×Int)}(hn:sp<=3) (ho:∀ (i:Nat) p,Q[i]? = some p->okQ sp h p) (ap:Apart Q):Q.length<=18:=by
 have e:(Q.map (fun p=>(p.1*6+p.2.1).toNat)).length=Q.length:=by simp
 have hm:∀ p∈Q,okQ sp h p:=fun p hp=>by obtain ⟨i,hi⟩:=List.getElem?_of_mem hp;exact ho i p hi
 rw [<- e]
 apply nodup_lt
 ·rw [List.Nodup,List.pairwise_map]
  refine List.Pairwise.imp_of_mem ?_ ((apart_iff Q).1 ap)
  intro x z hx hz hne e
  have h1:=hm x hx
  have h2:=hm z hz
  unfold okQ at h1 h2
  exact hne (by omega)
 ·intro t ht
  obtain ⟨p,hp,rfl⟩:=List.mem_map.1 ht
  have h1:=hm p hp
  unfold okQ at h1
  omega
theorem RM.Ok.mono {K:RM}{n m:Nat}(h:K.Ok n) (hm:n<=m):K.Ok m:=⟨h.ft,num_clo.mono _ _ _ (by omega) h.nm,h.ap,h.oq,h.lf,h.c0,by have:=h.c1;omega⟩
theorem RM.Ok.step {K K':RM}{n:Nat}(h:K.Ok n) (ft:K'.Fit) (nm:K'.Num (16*n+16+16)) (sa:Same K K') (lf:∀ l∈K'.leaves,okLf l):K'.Ok (n+1):=
 ⟨ft,num_clo.mono _ _ _ (by omega) nm,by rw [sa.ps];exact h.ap,by rw [sa.ps,sa.sp,sa.len];exact h.oq,lf,by rw [sa.cl];exact h.c0,by rw [sa.cl];have:=h.c1;omega⟩
theorem RM.cur_in (K:RM) (h:¬ K.cur < 0):∃ (j:Nat) (u:Th),K.cur=j/\K.threads[j]? = some u/\u.st=1:=by
 rcases curM_inv K.threads K.threads.length (Nat.le_refl _) with e | ⟨j,u,e,_,hu,hs⟩
 ·exact absurd (show K.cur < 0 by unfold RM.cur;omega) h
 ·exact ⟨j,u,e,hu,hs⟩
theorem RM.Fit.sends {K:RM}(h:K.Fit) (t r:Nat) (m:Ms) (hn:(r:Int)≠t):(K.sends t r m).Fit:=by
 unfold RM.sends
 split
 ·exact h
 ·split
  ·exact ((h.deliver _ _).toFirst _).goes _ _ _
  ·split
   ·exact h.over _ _
   ·exact h.waits t 2 r (.inl rfl) (fun _=>hn)
theorem RM.Fit.ipc {K:RM}(h:K.Fit) (m:Ms) (hq:∀ (i:Nat) p,K.passes[i]? = some p->0<=p.2.2.1):(K.ipc m).2.Fit:=by
 unfold RM.ipc
 split
 ·exact h
 ·rename_i hc
  split
  ·exact h
  ·rename_i hm
   have hm2:isMs K.threads.length m=true:=by simpa using hm
   have hw:m.words.length<=4:=by simp [isMs] at hm2;omega
   have h5:m.win<=5:=by simp [isMs,inI] at hm2;omega
   have ha:=h.asks K.cur.toNat m hw h5
   split
   ·exact ha.recv _ _ _
   ·split
    ·exact h
    ·split
     ·exact ha.over _ _
     ·rename_i p hp
      have hp0:0<=p.2.2.1:=by
       obtain ⟨i,hi⟩:=List.getElem?_of_mem (List.mem_of_find?_eq_some (show List.find? _ K.passes=some p from hp))
       exact hq i p hi
      split
      ·exact ha.over _ _
      ·rename_i hne
       exact (ha.lendsTo _ _).sends _ _ _ (by omega)
theorem RM.Ok.ipc {K:RM}{n:Nat}(h:K.Ok n) (m:Ms):(K.ipc m).2.Ok (n+1):=
 h.step (h.ft.ipc m (fun i p hp=>(h.oq i p hp).2.2.2.2.1)) (num_clo.mono _ _ _ (by omega) (num_clo.ipc m h.nm)) ((same_clo K).ipc (b:=0) m (Same.refl K)) (leaf_clo.ipc (b:=0) m h.lf)
theorem RM.Ok.yield {K:RM}{n:Nat}(h:K.Ok n):K.yield.2.Ok (n+1):=
 h.step h.ft.yield (num_clo.mono _ _ _ (by omega) (num_clo.yield h.nm)) ((same_clo K).yield (b:=0) (Same.refl K)) (leaf_clo.yield (b:=0) h.lf)
theorem RM.Ok.tick {K:RM}{n:Nat}(h:K.Ok n):K.tick.Ok (n+1):=by
 have sa:Same K.ticked K.tick:=(same_clo K.ticked).tick (b:=0) (Same.refl _)
 refine ⟨h.ft.tick,num_clo.mono _ _ _ (by omega) (h.nm.tick h.ft.six),by rw [sa.ps];exact h.ap,by rw [sa.ps,sa.sp,sa.len];exact h.oq,leaf_clo.tick (b:=0) (K:=K) h.lf,by rw [sa.cl];have:=h.c0;show 0<=K.clock+1;omega,by rw [sa.cl];have:=h.c1;show K.clock+1<=_;omega⟩
theorem RM.Ok.stored {K:RM}{n:Nat}(h:K.Ok n) (pg ce v:Int):(K.stored pg ce v).Ok (n+1):=by
 refine RM.Ok.mono (n:=n) ⟨h.ft.stored pg ce v,?_,?_,?_,?_,?_,?_⟩ (by omega)
 all_goals unfold RM.stored
 all_goals split
 ·exact h.nm.same rfl rfl rfl
 ·exact h.nm
 ·exact h.ap
 ·exact h.ap
 ·exact h.oq
 ·exact h.oq
 ·exact h.lf
 ·exact h.lf
 ·exact h.c0
 ·exact h.c0
 ·exact h.c1
 ·exact h.c1
theorem RM.Ok.unmap {K:RM}{n:Nat}(h:K.Ok n) (pg:Int) (own:Bool):(K.unmap pg own).2.Ok (n+1):=by
 have hf:=h.ft.unmap pg own
 revert hf
 unfold RM.unmap
 split
 ·exact fun _=>h.mono (by omega)
 ·split
  ·split
   ·exact fun hf=>RM.Ok.mono (n:=n) ⟨hf,h.nm.same rfl rfl rfl,h.ap,h.oq,fun l hl=>h.lf l (mem_gone.1 hl).1,h.c0,h.c1⟩ (by omega)
   ·exact fun _=>h.mono (by omega)
  ·exact fun _=>h.mono (by omega)
theorem RM.Ok.setP {K:RM} {n:Nat} (h:K.Ok n) (Q:List (Int×Int×Int×Int)) (ha:Apart Q) (ho:∀ (i:Nat) p,Q[i]? = some p->okQ K.sp ((K.threads.length:Int)-1) p):({ K with passes:=Q }:RM).Ok (n+1):=
 RM.Ok.mono (n:=n) ⟨⟨h.ft.one,h.ft.six,h.ft.sp1,h.ft.sp3,h.ft.th,h.ft.ap,h.ft.kin,h.ft.lf⟩,h.nm.same rfl rfl rfl,ha,ho,h.lf,h.c0,h.c1⟩ (by omega)
theorem RM.Ok.drop {K:RM}{n:Nat}(h:K.Ok n) (a:Int):(K.drop a).2.Ok (n+1):=by
 unfold RM.drop
 split
 ·exact h.mono (by omega)
 ·split
  ·split
   ·exact h.setP _ (outQ_apart h.ap _ _) (fun i p hp=>by obtain ⟨j,hj⟩:=outQ_mem hp;exact h.oq j p hj)
   ·exact h.mono (by omega)
  ·exact h.mono (by omega)
theorem RM.home_ok {K:RM}(h:K.Fit):0<=K.home/\K.home<=K.sp-1:=by
 unfold RM.home
 split
 ·rename_i u hu;have f:=h.th _ u hu;exact ⟨f.s0,f.s1⟩
 ·have:=h.sp1;omega
theorem RM.Ok.derive {K:RM}{n:Nat}(h:K.Ok n) (a b r:Int):(K.derive a b r).2.Ok (n+1):=by
 unfold RM.derive
 split
 ·exact h.mono (by omega)
 ·split
  ·rename_i hc
   split
   ·rename_i p hp
    split
    ·refine h.setP _ (putQ_apart h.ap _ _ _ _) (fun i q hq=>?_)
     rcases putQ_mem (List.mem_of_getElem? hq) with rfl | hm
     ·have hh:=RM.home_ok h.ft
      obtain ⟨j,hj⟩:=List.getElem?_of_mem (List.mem_of_find?_eq_some (show List.find? _ K.passes=some p from hp))
      have ho:=h.oq j p hj
      have i1:=inI_true.1 hc.2.1
      have i2:=inI_true.1 hc.2.2
      exact ⟨hh.1,hh.2,i1.1,i1.2,ho.2.2.2.2.1,ho.2.2.2.2.2.1,i2.1,i2.2⟩
     ·obtain ⟨j,hj⟩:=List.getElem?_of_mem hm
      exact h.oq j q hj
    ·exact h.mono (by omega)
   ·exact h.mono (by omega)
  ·exact h.mono (by omega)
theorem born_ord {T:List (Int×Int)}:∀ (i0 i:Nat) u,(born i0 T)[i]? = some u->u.2.2.1=((i0+i:Nat):Int):=by
 induction T with
 | nil=>intro i0 i u h;simp [born] at h
 | cons p r ih=>
  intro i0 i u h
  cases i with
  | zero=>simp [born] at h;rw [<- h];rfl
  | succ i=>
   simp [born] at h
   rw [ih _ _ _ h]
   omega
theorem new_okM {sp:Int}{T:List (Int×Int)}{Q L:List (Int×Int×Int×Int)}(h:Fits sp T Q L) (n:Nat):(RK.new sp T Q L).up.Ok n:=by
 have hf:=new_fit h
 obtain ⟨⟨s1,s2⟩,⟨t1,t2⟩,ot,oq,aq,ol,al⟩:=h
 have hl:(RK.new sp T Q L).up.threads.length=T.length:=by simp [RK.up,RK.new,born_length]
 have ho:∀ (i:Nat) u,(RK.new sp T Q L).up.threads[i]? = some u->u.ord=i/\u.st=1/\i < T.length:=by
  intro i u hu
  have hi:i < T.length:=by rw [<- hl];exact (List.getElem?_eq_some_iff.1 hu).1
  have hu2:((born 0 T).map thOf)[i]? = some u:=hu
  rw [List.getElem?_map] at hu2
  rcases hb:(born 0 T)[i]? with _ | x
  ·rw [hb] at hu2;cases hu2
  ·rw [hb] at hu2
   cases hu2
   have:=born_ord 0 i x hb
   exact ⟨by show x.2.2.1=_;rw [this];simp,rfl,hi⟩
 refine RM.Ok.mono (n:=0) ⟨hf,⟨by show _<=(-1:Int);omega,by show (-1:Int)<=-1;omega,by show (0:Int)<=(T.length:Int);omega,by show (T.length:Int)<=_;omega,fun i u hu=>?_,fun i j u v hu hv e=>?_,fun i u hu hs=>absurd (ho i u hu).2.1 hs,fun i j u v hu hv s1 s2 e=>absurd (ho i u hu).2.1 s1⟩,aq,?_,?_,by show (0:Int)<=0;omega,by show (0:Int)<=_;omega⟩ (by omega)
 ·have:=ho i u hu
  show (-1:Int) < u.ord/\u.ord < (T.length:Int)
  omega
 ·have h1:=ho i u hu
  have h2:=ho j v hv
  omega
 ·rw [hl];exact oq
 ·intro l hl
  obtain ⟨p,hp,rfl⟩:=List.mem_map.1 (show l∈L.map lfOf from hl)
  obtain ⟨i,hi⟩:=List.getElem?_of_mem hp
  have:=ol i p hi
  exact ⟨this.2.2.2.2.1,this.2.2.2.2.2.1,this.2.2.2.2.2.2.1,this.2.2.2.2.2.2.2⟩
end Go.Proofs.YteejjgbeknnmeaaGreatDoor
