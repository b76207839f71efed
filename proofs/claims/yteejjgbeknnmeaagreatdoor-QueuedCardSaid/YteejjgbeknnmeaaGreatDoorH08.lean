import Derived.Test.YteejjgbeknnmeaaGreatDoorH07
import Derived.Test.YteejjgbeknnmeaaGreatDoorH06
namespace Go.Proofs.YteejjgbeknnmeaaGreatDoor
open Go.RowKit
theorem deliver_threads {K:RM} {s t:Nat} {a x:Th} (ha:K.threads[s]? = some a) (hx:K.threads[t]? = some x):(K.deliver s t).threads=K.threads.modify t (fun u=>{ u with st:=1,time:=-1,code:=0,who:=s,ws:=a.mw,got:=(lendL K.leaves a x).2 }):=by
 simp only [RM.deliver,ha,hx,RM.upd]
theorem heard_threads {K:RM}{s t:Nat}{a x:Th}(stands:Bool) (ha:K.threads[s]? = some a) (hx:K.threads[t]? = some x):∃ F:Th->Th,(F x).st=1/\(K.heard s t stands).threads=K.threads.modify t F:=by
 unfold RM.heard
 cases stands with
 | true=>exact ⟨_,rfl,deliver_threads ha hx⟩
 | false=>
  refine ⟨fun u=>{ u with st:=1,time:=-1,code:=0,who:=s,ws:=a.mw,got:=(lendL K.leaves a x).2,ord:=(K.deliver s t).first },rfl,?_⟩
  show (K.deliver s t).threads.modify t _=_
  rw [deliver_threads ha hx]
  exact modify_two hx rfl
theorem modify_other {α:Type}{l:List α}{t s:Nat}(f:α->α) (h:s≠t):(l.modify t f)[s]? = l[s]?:=by
 rw [List.getElem?_modify]
 have:¬ t=s:=fun e=>h e.symm
 simp [this]
open Go.RowKit
def RM.setLeft (K:RM) (t:Nat) (n:Int):RM:=K.upd t (fun u=>{ u with left:=n })
def RM.ticked (K:RM):RM:={ K with clock:=K.clock+1 }
def RM.tickTo (K:RM):Nat->RM
 | 0=>K
 | i+1=>
  match (K.tickTo i).threads[i]? with
  | none=>K.tickTo i
  | some x=>if x.time=(K.tickTo i).clock then ((K.tickTo i).over i 6).toLast i else K.tickTo i
def RM.spent (K:RM):RM:=
 match K.threads[K.cur.toNat]? with
 | none=>K
 | some u=>if K.cur < 0 then K else if u.left-1=0 then (K.setLeft K.cur.toNat 3).toLast K.cur.toNat else K.setLeft K.cur.toNat (u.left-1)
def RM.tick (K:RM):RM:=K.ticked.spent.tickTo K.threads.length
def RM.yield (K:RM):Int×RM:=if K.cur < 0 then (2,K) else (0,(K.setLeft K.cur.toNat 3).toLast K.cur.toNat)
theorem tickTo_same (K:RM):∀ i,(K.tickTo i).threads.length=K.threads.length/\(K.tickTo i).clock=K.clock/\K.last<=(K.tickTo i).last/\(K.tickTo i).last<=K.last+i/\(K.tickTo i).first=K.first
 | 0=>⟨rfl,rfl,Int.le_refl _,by simp [RM.tickTo],rfl⟩
 | i+1=>by
  obtain ⟨h1,h2,h3,h4,h5⟩:=tickTo_same K i
  simp only [RM.tickTo]
  split
  ·exact ⟨h1,h2,h3,by omega,h5⟩
  ·split
   ·refine ⟨by simp [RM.toLast,RM.over,RM.upd,h1],h2,?_,?_,h5⟩
    ·show K.last<=(K.tickTo i).last+1;omega
    ·show (K.tickTo i).last+1<=_;omega
   ·exact ⟨h1,h2,h3,by omega,h5⟩
theorem RM.Fit.tickTo {K:RM}(h:K.Fit):∀ i,(K.tickTo i).Fit
 | 0=>h
 | i+1=>by
  simp only [RM.tickTo]
  split
  ·exact RM.Fit.tickTo h i
  ·split
   ·exact ((RM.Fit.tickTo h i).over i 6).toLast i
   ·exact RM.Fit.tickTo h i
theorem RM.Fit.setLeft {K:RM}(h:K.Fit) (t:Nat) (n:Int) (h1:1<=n) (h3:n<=3):(K.setLeft t n).Fit:=h.upd t _ (fun x hx=>by have f:=h.th t x hx;exact ⟨f.s0,f.s1,f.r0,f.r1,h1,h3,f.mw,f.ws,f.win,f.st,f.ot⟩)
open Go.RowKit
def RM.home (K:RM):Int:=match K.threads[K.cur.toNat]? with
 | some u=>u.sp
 | none=>0
def RM.touch (K:RM) (pg ce rt:Int):Int×Int:=
 if K.cur < 0 then (0,2) else if inI pg 0 5=true/\inI ce 0 3=true then
  match findLf K.leaves K.home pg with
  | some p=>if bits .and .i64 p.rt rt=0 then (0,7) else (p.fr,0)
  | none=>(0,7)
 else (0,3)
def RM.load (K:RM) (pg ce:Int):Int×Int:=if (K.touch pg ce 1).2=0 then (K.fr ((K.touch pg ce 1).1.toNat*4+ce.toNat),0) else (0,(K.touch pg ce 1).2)
def RM.stored (K:RM) (pg ce n:Int):RM:=if (K.touch pg ce 2).2=0 then { K with fr:=frSet K.fr ((K.touch pg ce 2).1.toNat*4+ce.toNat) n } else K
noncomputable def RM.unmap (K:RM) (pg:Int) (own:Bool):Int×RM:=
 if K.cur < 0 then (2,K) else if inI pg 0 5=true then
  match findLf K.leaves K.home pg with
  | some _=>(0,{ K with leaves:=goneL K.leaves K.home pg own })
  | none=>(8,K)
 else (3,K)
open Go.RowKit
def RM.drop (K:RM) (n:Int):Int×RM:=
 if K.cur < 0 then (2,K) else if inI n 0 5=true then
  match findQ K.passes K.home n with
  | some _=>(0,{ K with passes:=outQ K.passes K.home n })
  | none=>(4,K)
 else (3,K)
def RM.derive (K:RM) (a b r:Int):Int×RM:=
 if K.cur < 0 then (2,K) else if inI a 0 5=true/\inI b 0 5=true/\inI r 1 3=true then
  match findQ K.passes K.home a with
  | some p=>if hasRt p.2.2.2 r=true then (0,{ K with passes:=putQ K.passes K.home b p.2.2.1 r }) else (4,K)
  | none=>(4,K)
 else (3,K)
end Go.Proofs.YteejjgbeknnmeaaGreatDoor
