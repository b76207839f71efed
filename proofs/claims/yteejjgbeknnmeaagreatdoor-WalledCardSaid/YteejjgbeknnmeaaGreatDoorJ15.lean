import Derived.Test.YteejjgbeknnmeaaGreatDoorJ05
namespace Go.Proofs.YteejjgbeknnmeaaGreatDoor
open Go.RowKit
def Wo (act:Nat->Prop) (i:Nat):Nat->Prop:=fun j=>act j/\j≠i
def Wi (act:Nat->Prop) (i:Nat):Nat->Prop:=fun j=>act j\/j=i
section
variable {act act':Nat->Prop}{ts:List Th}{r i j n:Nat}{t:Th}{p:PT}
theorem inwl_act (h:act' j↔act j):Inwl act' ts r j↔Inwl act ts r j:=by unfold Inwl;simp only [h]
theorem RelT.to_act (h:RelT act n i t p) (e:act' i↔act i):RelT act' n i t p:=
 ⟨h.sp,h.row,h.left,h.st,h.code,h.who,h.ws,h.got,fun a=>⟨(h.idle a).1,fun b=>(h.idle a).2 (fun c=>b (e.2 c))⟩,fun a=>h.talk (a.imp id e.1),fun a b=>h.time a (fun c=>b (e.2 c)),fun a b=>h.send a (fun c=>b (e.2 c))⟩
theorem RelT.enter (h:RelT act n i t p) (ha:act' i) (h1:t.st≠1):RelT act' n i t p:=
 ⟨h.sp,h.row,h.left,h.st,h.code,h.who,h.ws,h.got,fun a=>absurd a h1,fun _=>h.talk (.inl h1),fun _ b=>absurd ha b,fun _ b=>absurd ha b⟩
end
theorem Rel.th_upd {act act':Nat->Prop}{M:PM}{K:RM}(h:Rel act M K){i:Nat}{f:PT->PT}{g:Th->Th}(hi:∀ t p,K.threads[i]? = some t->M.threads[i]? = some p->RelT act K.threads.length i t p->RelT act' K.threads.length i (g t) (f p)) (ho:∀ j,j≠i->(act' j↔act j)) :
  ∀ (j:Nat) t' p',(K.threads.modify i g)[j]? = some t'->(M.threads.modify i f)[j]? = some p'->RelT act' K.threads.length j t' p':=by
 intro j t' p' ht hp
 rw [List.getElem?_modify] at ht hp
 rcases hx:K.threads[j]? with _ | x
 ·rw [hx] at ht;simp at ht
 ·rcases hy:M.threads[j]? with _ | y
  ·rw [hy] at hp;simp at hp
  ·rw [hx] at ht
   rw [hy] at hp
   by_cases e:i=j
   ·subst e
    simp at ht hp
    rw [<- ht,<- hp]
    exact hi x y hx hy (h.th i x y hx hy)
   ·simp [e] at ht hp
    rw [<- ht,<- hp]
    exact (h.th j x y hx hy).to_act (ho j (fun a=>e a.symm))
theorem wl_upd {M:PM}{i:Nat}{f:PT->PT}(hf:∀ p,(f p).wl=p.wl){r:Nat}{p':PT}(h:(M.threads.modify i f)[r]? = some p'):∃ p,M.threads[r]? = some p/\p'.wl=p.wl:=by
 rw [List.getElem?_modify] at h
 rcases hy:M.threads[r]? with _ | y
 ·rw [hy] at h;simp at h
 ·rw [hy] at h
  by_cases e:i=r
  ·simp [e] at h;exact ⟨y,rfl,by rw [<- h,hf]⟩
  ·simp [e] at h;exact ⟨y,rfl,by rw [<- h]⟩
section
variable {act:Nat->Prop}{M:PM}{K:RM}{i:Nat}{t:Th}
theorem Rel.over (h:Rel act M K) (ht:K.threads[i]? = some t) (s1:t.st=1) (e:Int):Rel (Wo act i) (M.upd i (overP e (-1) [] (-1))) (K.over i e):=by
 refine ⟨by simpa [PM.upd,RM.over,RM.upd] using h.len,?_,fun r hr=>?_,fun r p' hp=>?_,h.sp,h.ps,h.lf,h.fr,h.cl⟩
 ·have:=h.th_upd (act':=Wo act i) (i:=i) (f:=overP e (-1) [] (-1)) (g:=fun u=>{ u with st:=1,time:=-1,code:=e,who:=-1,ws:=[],got:=-1 }) (fun t p _ _ q=>⟨q.sp,q.row,q.left,rfl,rfl,rfl,rfl,rfl,fun _=>⟨rfl,fun _=>rfl⟩,fun a=>a.elim (fun a=>absurd rfl a) (fun a=>absurd rfl a.2),fun a=>absurd rfl a,fun a=>by simp at a⟩) (fun j hj=>⟨fun a=>a.1,fun a=>⟨a,hj⟩⟩)
  intro j t' p' hj hp'
  have e9:(K.over i e).threads.length=K.threads.length:=by simp [RM.over,RM.upd]
  rw [e9]
  exact this j t' p' hj hp'
 ·refine (h.rows r hr).congr (fun j=>?_) (fun j _=>?_)
  ·show Inrow K.threads r j↔Inrow (K.threads.modify i _) r j
   rw [inrow_mod ht]
   by_cases e:j=i
   ·subst e;rw [inrow_at ht];simp [s1]
   ·simp [e]
  ·show ordM (K.threads.modify i _) j=_
   rw [ordM_mod ht]
   split
   ·rename_i e;subst e;rw [ordM_at ht]
   ·rfl
 ·obtain ⟨p,hp,e1⟩:=wl_upd (f:=overP e (-1) [] (-1)) (fun _=>rfl) hp
  rw [e1]
  refine (h.wl r p hp).congr (fun j=>?_) (fun j _=>?_)
  ·show _↔Inwl _ (K.threads.modify i _) r j
   rw [inwl_mod ht]
   by_cases e:j=i
   ·subst e;rw [inwl_at ht];simp [s1]
   ·simp [e,inwl_act (act:=act) (act':=Wo act i) (j:=j) ⟨fun a=>a.1,fun a=>⟨a,e⟩⟩]
  ·show turnM (K.threads.modify i _) j=_
   rw [turnM_mod ht]
   split
   ·rename_i e;subst e;rw [turnM_at ht]
   ·rfl
theorem over_last (ht:K.threads[i]? = some t) (e:Int):((K.over i e).toLast i).threads=K.threads.modify i (fun u=>{ u with st:=1,time:=-1,code:=e,who:=-1,ws:=[],got:=-1,ord:=K.last }):=
 modify_two (h:=fun u:Th=>{ u with st:=1,time:=-1,code:=e,who:=-1,ws:=[],got:=-1,ord:=K.last }) ht rfl
theorem Rel.rowsLast (h:Rel act M K) (ft:K.Fit){b:Nat}(nm:K.Num b) (ht:K.threads[i]? = some t){g:Th->Th}(g1:(g t).st=1) (g2:(g t).row=t.row) (g3:(g t).ord=K.last) (r:Nat) (hr:r < 4) :
  Sd (ordM (K.threads.modify i g)) (Inrow (K.threads.modify i g) r) ((M.setLn t.row.toNat ((M.ln t.row.toNat).erase i ++ [i])).ln r):=by
 have f:=ft.th i t ht
 have r0:=f.r0
 simp only [PM.setLn]
 by_cases e:r=t.row.toNat
 ·rw [if_pos e,<- e]
  refine (h.rows r hr).comeLast i (fun j=>?_) (fun j hj hn=>?_)
  ·rw [inrow_mod ht]
   by_cases e2:j=i
   ·subst e2;simp [g1,g2];omega
   ·simp [e2]
  ·rw [ordM_mod ht,ordM_mod ht,if_neg hn,if_pos rfl,g3]
   obtain ⟨v,hv,_⟩:=hj
   have:=nm.o0 j v hv
   rw [ordM_at hv]
   exact ⟨rfl,this.2⟩
 ·rw [if_neg e]
  refine (h.rows r hr).congr (fun j=>?_) (fun j hj=>?_)
  ·rw [inrow_mod ht]
   by_cases e2:j=i
   ·subst e2
    rw [inrow_at ht]
    simp [g2]
    intro a
    omega
   ·simp [e2]
  ·rw [ordM_mod ht]
   by_cases e2:j=i
   ·subst e2
    obtain ⟨v,hv,_,a⟩:=hj
    rw [ht] at hv
    cases hv
    omega
   ·rw [if_neg e2]
theorem Rel.rowsFirst (h:Rel act M K) (ft:K.Fit){b:Nat}(nm:K.Num b) (ht:K.threads[i]? = some t){g:Th->Th}(g1:(g t).st=1) (g2:(g t).row=t.row) (g3:(g t).ord=K.first) (r:Nat) (hr:r < 4) :
  Sd (ordM (K.threads.modify i g)) (Inrow (K.threads.modify i g) r) ((M.setLn t.row.toNat (i :: (M.ln t.row.toNat).erase i)).ln r):=by
 have f:=ft.th i t ht
 have r0:=f.r0
 simp only [PM.setLn]
 by_cases e:r=t.row.toNat
 ·rw [if_pos e,<- e]
  refine (h.rows r hr).comeFirst i (fun j=>?_) (fun j hj hn=>?_)
  ·rw [inrow_mod ht]
   by_cases e2:j=i
   ·subst e2;simp [g1,g2];omega
   ·simp [e2]
  ·rw [ordM_mod ht,ordM_mod ht,if_neg hn,if_pos rfl,g3]
   obtain ⟨v,hv,_⟩:=hj
   have:=nm.o0 j v hv
   rw [ordM_at hv]
   exact ⟨rfl,this.1⟩
 ·rw [if_neg e]
  refine (h.rows r hr).congr (fun j=>?_) (fun j hj=>?_)
  ·rw [inrow_mod ht]
   by_cases e2:j=i
   ·subst e2
    rw [inrow_at ht]
    simp [g2]
    intro a
    omega
   ·simp [e2]
  ·rw [ordM_mod ht]
   by_cases e2:j=i
   ·subst e2
    obtain ⟨v,hv,_,a⟩:=hj
    rw [ht] at hv
    cases hv
    omega
   ·rw [if_neg e2]
theorem Rel.rowsOut (h:Rel act M K) (ft:K.Fit) (ht:K.threads[i]? = some t){g:Th->Th}(g1:(g t).st≠1) (r:Nat) (hr:r < 4) :
  Sd (ordM (K.threads.modify i g)) (Inrow (K.threads.modify i g) r) ((M.setLn t.row.toNat ((M.ln t.row.toNat).erase i)).ln r):=by
 have f:=ft.th i t ht
 have r0:=f.r0
 simp only [PM.setLn]
 by_cases e:r=t.row.toNat
 ·rw [if_pos e,<- e]
  refine (h.rows r hr).erase i (fun j=>?_) (fun j hj hn=>?_)
  ·rw [inrow_mod ht]
   by_cases e2:j=i
   ·subst e2;simp [g1]
   ·simp [e2]
  ·rw [ordM_mod ht,if_neg hn]
 ·rw [if_neg e]
  refine (h.rows r hr).congr (fun j=>?_) (fun j hj=>?_)
  ·rw [inrow_mod ht]
   by_cases e2:j=i
   ·subst e2
    rw [inrow_at ht]
    simp [g1]
    intro _ a;omega
   ·simp [e2]
  ·rw [ordM_mod ht]
   by_cases e2:j=i
   ·subst e2
    obtain ⟨v,hv,_,a⟩:=hj
    rw [ht] at hv
    cases hv
    omega
   ·rw [if_neg e2]
theorem Rel.wlSame {act':Nat->Prop}(h:Rel act M K) (ht:K.threads[i]? = some t) (hn:t.st≠2\/act i){g:Th->Th}(g1:(g t).st≠2\/act' i) (ho:∀ j,j≠i->(act' j↔act j)){r:Nat}{p:PT}(hp:M.threads[r]? = some p) :
  Sd (turnM (K.threads.modify i g)) (Inwl act' (K.threads.modify i g) r) p.wl:=by
 refine (h.wl r p hp).congr (fun j=>?_) (fun j hj=>?_)
 ·rw [inwl_mod ht]
  by_cases e:j=i
  ·subst e
   rw [inwl_at ht]
   simp
   constructor
   ·rintro ⟨a,_,b⟩;rcases hn with hn | hn;exact absurd a hn;exact absurd hn b
   ·rintro ⟨a,_,b⟩;rcases g1 with g1 | g1;exact absurd a g1;exact absurd g1 b
  ·simp [e,inwl_act (ho j e)]
 ·rw [turnM_mod ht]
  by_cases e:j=i
  ·subst e
   obtain ⟨v,hv,a,_,b⟩:=hj
   rw [ht] at hv
   cases hv
   rcases hn with hn | hn
   ·exact absurd a hn
   ·exact absurd hn b
  ·rw [if_neg e]
theorem wo_ne:∀ j,j≠i->(Wo act i j↔act j):=fun _j hj=>⟨fun a=>a.1,fun a=>⟨a,hj⟩⟩
theorem wi_ne:∀ j,j≠i->(Wi act i j↔act j):=fun _j hj=>⟨fun a=>a.elim id (fun e=>absurd e hj),.inl⟩
theorem Rel.overLast (h:Rel act M K) (ft:K.Fit){b:Nat}(nm:K.Num b) (ht:K.threads[i]? = some t) (hn:t.st≠2\/act i) (e:Int) :
  Rel (Wo act i) ((M.setLn t.row.toNat ((M.ln t.row.toNat).erase i ++ [i])).upd i (overP e (-1) [] (-1))) ((K.over i e).toLast i):=by
 have ek:=over_last ht e
 refine ⟨?_,?_,fun r hr=>?_,fun r p' hp=>?_,h.sp,h.ps,h.lf,h.fr,h.cl⟩
 ·rw [ek];simpa [PM.upd,PM.setLn] using h.len
 ·rw [ek]
  have:=h.th_upd (act':=Wo act i) (i:=i) (f:=overP e (-1) [] (-1)) (g:=fun u=>{ u with st:=1,time:=-1,code:=e,who:=-1,ws:=[],got:=-1,ord:=K.last }) (fun t p _ _ q=>⟨q.sp,q.row,q.left,rfl,rfl,rfl,rfl,rfl,fun _=>⟨rfl,fun _=>rfl⟩,fun a=>a.elim (fun a=>absurd rfl a) (fun a=>absurd rfl a.2),fun a=>absurd rfl a,fun a=>by simp at a⟩) wo_ne
  intro j t' p' hj hp'
  rw [show (K.threads.modify i _).length=K.threads.length by simp]
  exact this j t' p' hj hp'
 ·rw [ek]
  exact h.rowsLast ft nm ht (g:=fun u=>{ u with st:=1,time:=-1,code:=e,who:=-1,ws:=[],got:=-1,ord:=K.last }) rfl rfl rfl r hr
 ·rw [ek]
  obtain ⟨p,hp,e1⟩:=wl_upd (M:=M) (f:=overP e (-1) [] (-1)) (fun _=>rfl) hp
  rw [e1]
  exact h.wlSame ht hn (.inl (by simp)) wo_ne hp
def timP (clock:Int) (p:PT):Int:=if 0 < p.wait then (clock+p.wait) % 18446744073709551616 else p.time
theorem timR {c:Int}{p:PT}{t:Th}(hw:p.wait=t.wait) (hz:p.wait<=0->p.time=0):TimeR (timP c p) (tim c t.wait):=by
 unfold timP tim
 rw [hw] at hz ⊢
 by_cases e:0 < t.wait
 ·rw [if_pos e,if_pos e];exact .inr ⟨c+t.wait,rfl,rfl⟩
 ·rw [if_neg e,if_neg e];exact .inl ⟨hz (by omega),rfl⟩
theorem timZ {c:Int}{p:PT}(hz:p.wait<=0->p.time=0):p.wait<=0->timP c p=0:=fun e=>by
 unfold timP;rw [if_neg (by omega)];exact hz e
theorem Rel.waits3 (h:Rel act M K) (ft:K.Fit) (ht:K.threads[i]? = some t) (ha:act i) :
  Rel (Wo act i) ((M.setLn t.row.toNat ((M.ln t.row.toNat).erase i)).upd i (fun p=>{ p with st:=3,time:=timP M.clock p })) (K.waits i 3 (-1)):=by
 refine ⟨?_,?_,fun r hr=>?_,fun r p' hp=>?_,h.sp,h.ps,h.lf,h.fr,h.cl⟩
 ·simpa [PM.upd,PM.setLn,RM.waits,RM.upd] using h.len
 ·have:=h.th_upd (act':=Wo act i) (i:=i) (f:=fun p=>{ p with st:=3,time:=timP M.clock p }) (g:=fun u=>{ u with st:=3,other:=-1,turn:=K.last,time:=tim K.clock u.wait }) (fun t p _ _ q=>by
    have ta:=q.talk (.inr ha)
    exact ⟨q.sp,q.row,q.left,rfl,q.code,q.who,q.ws,q.got,fun a=>by simp at a,fun _=>⟨ta.1,ta.2.1,ta.2.2.1,timZ ta.2.2.2.1,ta.2.2.2.2⟩,fun _ _=>by rw [h.cl];exact timR ta.2.2.1 ta.2.2.2.1,fun a=>by simp at a⟩) wo_ne
  intro j t' p' hj hp'
  have e9:(K.waits i 3 (-1)).threads.length=K.threads.length:=by simp [RM.waits,RM.upd]
  rw [e9]
  exact this j t' p' hj hp'
 ·exact h.rowsOut ft ht (g:=fun u=>{ u with st:=3,other:=-1,turn:=K.last,time:=tim K.clock u.wait }) (by simp) r hr
 ·obtain ⟨p,hp,e1⟩:=wl_upd (M:=M) (f:=fun p=>{ p with st:=3,time:=timP M.clock p }) (fun _=>rfl) hp
  rw [e1]
  exact h.wlSame ht (.inr ha) (g:=fun u=>{ u with st:=3,other:=-1,turn:=K.last,time:=tim K.clock u.wait }) (.inl (by simp)) wo_ne hp
def Par (t:Th) (p:PT):Prop:=p.pw=t.mw/\p.item=(if t.lends=true then t.item else -1)/\p.rt=t.rt/\-1<=t.item/\t.item<=5
theorem Rel.waits2 (h:Rel act M K) (ft:K.Fit){b:Nat}(nm:K.Num b) (ht:K.threads[i]? = some t) (ha:act i){p:PT}(hp:M.threads[i]? = some p) (hpar:Par t p){r:Nat}(hr:r < K.threads.length) (hri:r≠i) :
  Rel (Wo act i) (((M.upd i (fun p=>{ p with tgt:=r })).upd r (fun p=>{ p with wl:=p.wl.erase i ++ [i] })).setLn t.row.toNat ((M.ln t.row.toNat).erase i) |>.upd i (fun p=>{ p with st:=2,time:=timP M.clock p })) (K.waits i 2 r):=by
 obtain ⟨q,hq⟩:∃ q,M.threads[r]? = some q:=⟨_,List.getElem?_eq_getElem (by rw [h.len];exact hr)⟩
 have em:(((M.threads.modify i (fun p=>{ p with tgt:=(r:Int) })).modify r (fun p=>{ p with wl:=p.wl.erase i ++ [i] })).modify i (fun p=>{ p with st:=2,time:=timP M.clock p }))=(M.threads.modify i (fun p=>{ p with tgt:=(r:Int),st:=2,time:=timP M.clock p })).modify r (fun p=>{ p with wl:=p.wl.erase i ++ [i] }):=by
  apply List.ext_getElem?
  intro j
  simp only [List.getElem?_modify]
  rcases hx:M.threads[j]? with _ | x
  ·simp
  ·by_cases e1:i=j
   ·have e2:¬ r=j:=by omega
    simp [e1,e2,timP]
   ·by_cases e2:r=j <;> simp [e1,e2]
 have hnm:=nm.t0
 refine ⟨?_,?_,fun r' hr'=>?_,fun r' p' hp'=>?_,h.sp,h.ps,h.lf,h.fr,h.cl⟩
 ·simpa [PM.upd,PM.setLn,RM.waits,RM.upd] using h.len
 ·have:=h.th_upd (act':=Wo act i) (i:=i) (f:=fun p=>{ p with tgt:=(r:Int),st:=2,time:=timP M.clock p }) (g:=fun u=>{ u with st:=2,other:=(r:Int),turn:=K.last,time:=tim K.clock u.wait }) (fun t' p' ht' hp' q=>by
    rw [ht] at ht';cases ht'
    rw [hp] at hp';cases hp'
    have ta:=q.talk (.inr ha)
    exact ⟨q.sp,q.row,q.left,rfl,q.code,q.who,q.ws,q.got,fun a=>by simp at a,fun _=>⟨ta.1,ta.2.1,ta.2.2.1,timZ ta.2.2.2.1,ta.2.2.2.2⟩,fun _ _=>by rw [h.cl];exact timR ta.2.2.1 ta.2.2.2.1,fun _ _=>⟨⟨r,rfl,hr⟩,rfl,hpar.1,hpar.2.1,hpar.2.2.1,hpar.2.2.2.1,hpar.2.2.2.2⟩⟩) wo_ne
  intro j t' p' ht' hp'
  have hp2:(((M.threads.modify i (fun p=>{ p with tgt:=(r:Int) })).modify r (fun p=>{ p with wl:=p.wl.erase i ++ [i] })).modify i (fun p=>{ p with st:=2,time:=timP M.clock p }))[j]? = some p':=hp'
  rw [em,List.getElem?_modify] at hp2
  rcases hy:(M.threads.modify i (fun p=>{ p with tgt:=(r:Int),st:=2,time:=timP M.clock p }))[j]? with _ | y
  ·rw [hy] at hp2;simp at hp2
  ·rw [hy] at hp2
   have R:=this j t' y ht' hy
   have hl:(K.waits i 2 r).threads.length=K.threads.length:=by simp [RM.waits,RM.upd]
   rw [hl]
   by_cases e:r=j
   ·simp [e] at hp2
    rw [<- hp2]
    exact ⟨R.sp,R.row,R.left,R.st,R.code,R.who,R.ws,R.got,R.idle,R.talk,R.time,R.send⟩
   ·simp [e] at hp2
    rw [<- hp2]
    exact R
 ·exact h.rowsOut ft ht (g:=fun u=>{ u with st:=2,other:=(r:Int),turn:=K.last,time:=tim K.clock u.wait }) (by simp) r' hr'
 ·have hp2:(((M.threads.modify i (fun p=>{ p with tgt:=(r:Int) })).modify r (fun p=>{ p with wl:=p.wl.erase i ++ [i] })).modify i (fun p=>{ p with st:=2,time:=timP M.clock p }))[r']? = some p':=hp'
  rw [em,List.getElem?_modify] at hp2
  rcases hy:(M.threads.modify i (fun p=>{ p with tgt:=(r:Int),st:=2,time:=timP M.clock p }))[r']? with _ | y
  ·rw [hy] at hp2;simp at hp2
  ·rw [hy] at hp2
   obtain ⟨z,hz,e1⟩:=wl_upd (M:=M) (f:=fun p=>{ p with tgt:=(r:Int),st:=2,time:=timP M.clock p }) (fun _=>rfl) hy
   have W:=h.wl r' z hz
   show Sd (turnM (K.threads.modify i (fun u=>{ u with st:=2,other:=(r:Int),turn:=K.last,time:=tim K.clock u.wait }))) (Inwl (Wo act i) (K.threads.modify i (fun u=>{ u with st:=2,other:=(r:Int),turn:=K.last,time:=tim K.clock u.wait })) r') p'.wl
   by_cases e:r=r'
   ·subst e
    simp at hp2
    rw [<- hp2]
    show Sd _ _ (y.wl.erase i ++ [i])
    rw [e1]
    refine W.comeLast i (fun j=>?_) (fun j hj hn=>?_)
    ·rw [inwl_mod ht]
     by_cases e2:j=i
     ·subst e2;simp [Wo]
     ·simp [e2,inwl_act (wo_ne (act:=act) j e2)]
    ·rw [turnM_mod ht,turnM_mod ht,if_neg hn,if_pos rfl]
     obtain ⟨v,hv,a,_⟩:=hj
     rw [turnM_at hv]
     exact ⟨rfl,(hnm j v hv (by omega)).2⟩
   ·simp [e] at hp2
    rw [<- hp2,e1]
    refine W.congr (fun j=>?_) (fun j hj=>?_)
    ·rw [inwl_mod ht]
     by_cases e2:j=i
     ·subst e2
      rw [inwl_at ht]
      simp [ha,Wo]
      omega
     ·simp [e2,inwl_act (wo_ne (act:=act) j e2)]
    ·rw [turnM_mod ht]
     by_cases e2:j=i
     ·subst e2
      obtain ⟨v,hv,a,_,b⟩:=hj
      exact absurd ha b
     ·rw [if_neg e2]
end
open Go.RowKit
noncomputable def lendP (L:List Lf) (asp item rt bsp win:Int):List Lf×Int:=
 if item < 0\/win < 0 then (L,-1) else
  match findLf (goneL L bsp win true) asp item with
  | none=>(goneL L bsp win true,-1)
  | some l=>if bits .and .i64 l.rt rt=0 then (goneL L bsp win true,-1) else (goneL L bsp win true ++ [⟨bsp,win,l.fr,bits .and .i64 l.rt rt,asp,item⟩],win)
theorem lendL_P (L:List Lf) (a b:Th):lendL L a b=lendP L a.sp (if a.lends=true then a.item else -1) a.rt b.sp b.win:=by
 unfold lendL lendP
 by_cases e:a.lends=true
 ·simp only [e,if_true,Bool.true_eq_false,or_false]
  by_cases q:a.item < 0\/b.win < 0
  ·rw [if_pos q,if_pos q]
  ·rw [if_neg q,if_neg q]
   cases findLf (goneL L b.sp b.win true) a.sp a.item <;> rfl
 ·simp [e]
section
variable {act:Nat->Prop}{M:PM}{K:RM}{i:Nat}{t:Th}
theorem Rel.parcel (h:Rel act M K) (ha:act i) (f:PT->PT) (hf:∀ p,∃ a b c d,f p={ p with tgt:=a,pw:=b,item:=c,rt:=d }):Rel act (M.upd i f) K:=by
 refine ⟨by simpa [PM.upd] using h.len,fun j t' p' ht hp=>?_,h.rows,fun r p' hp=>?_,h.sp,h.ps,h.lf,h.fr,h.cl⟩
 ·have hp2:(M.threads.modify i f)[j]? = some p':=hp
  rw [List.getElem?_modify] at hp2
  rcases hy:M.threads[j]? with _ | y
  ·rw [hy] at hp2;simp at hp2
  ·rw [hy] at hp2
   have R:=h.th j t' y ht hy
   by_cases e:i=j
   ·subst e
    simp at hp2
    obtain ⟨a,b,c,d,ef⟩:=hf y
    rw [<- hp2,ef]
    exact ⟨R.sp,R.row,R.left,R.st,R.code,R.who,R.ws,R.got,R.idle,R.talk,R.time,fun _ b=>absurd ha b⟩
   ·simp [e] at hp2
    rw [<- hp2];exact R
 ·obtain ⟨p,hp,e1⟩:=wl_upd (M:=M) (f:=f) (fun p=>by obtain ⟨a,b,c,d,ef⟩:=hf p;rw [ef]) hp
  rw [e1]
  exact h.wl r p hp
theorem Rel.lendsTo (h:Rel act M K) (ha:act i) (ht:K.threads[i]? = some t) (b:Bool):Rel act M (K.lendsTo i b):=by
 have hl:(K.lendsTo i b).threads.length=K.threads.length:=by simp [RM.lendsTo,RM.upd]
 refine ⟨by rw [hl];exact h.len,fun j t' p' hj hp=>?_,fun r hr=>?_,fun r p' hp=>?_,h.sp,h.ps,h.lf,h.fr,h.cl⟩
 ·rw [hl]
  have hj2:(K.threads.modify i (fun u=>{ u with lends:=b }))[j]? = some t':=hj
  rw [get_mod ht] at hj2
  split at hj2
  ·rename_i e
   subst e
   cases hj2
   have R:=h.th j t p' ht hp
   exact ⟨R.sp,R.row,R.left,R.st,R.code,R.who,R.ws,R.got,R.idle,R.talk,R.time,fun _ b=>absurd ha b⟩
  ·exact h.th j t' p' hj2 hp
 ·refine (h.rows r hr).congr (fun j=>?_) (fun j _=>?_)
  ·show _↔Inrow (K.threads.modify i _) r j
   rw [inrow_mod ht]
   by_cases e:j=i
   ·subst e;rw [inrow_at ht];simp
   ·simp [e]
  ·show ordM (K.threads.modify i _) j=_
   rw [ordM_mod ht]
   split
   ·rename_i e;subst e;rw [ordM_at ht]
   ·rfl
 ·exact h.wlSame ht (.inr ha) (g:=fun u=>{ u with lends:=b }) (.inr ha) (fun _ _=>Iff.rfl) hp
theorem Rel.leaves {r:Nat} {q:PT} (h:Rel act M K) (hq:M.threads[r]? = some q) (hi:i∈q.wl):Rel (Wi act i) (M.upd r (fun p=>{ p with wl:=q.wl.erase i })) K:=by
 obtain ⟨u,hu,u1,u2,u3⟩:=((h.wl r q hq).mem i).1 hi
 refine ⟨by simpa [PM.upd] using h.len,fun j t' p' ht hp=>?_,h.rows,fun r' p' hp=>?_,h.sp,h.ps,h.lf,h.fr,h.cl⟩
 ·have hp2:(M.threads.modify r (fun p=>{ p with wl:=q.wl.erase i }))[j]? = some p':=hp
  rw [get_modA hq] at hp2
  have key:∀ y,M.threads[j]? = some y->RelT (Wi act i) K.threads.length j t' y:=by
   intro y hy
   have R:=h.th j t' y ht hy
   by_cases e:j=i
   ·subst e
    rw [hu] at ht
    cases ht
    exact R.enter (.inr rfl) (by omega)
   ·exact R.to_act (wi_ne j e)
  split at hp2
  ·rename_i e
   subst e
   cases hp2
   have R:=key q hq
   exact ⟨R.sp,R.row,R.left,R.st,R.code,R.who,R.ws,R.got,R.idle,R.talk,R.time,R.send⟩
  ·exact key p' hp2
 ·have hp2:(M.threads.modify r (fun p=>{ p with wl:=q.wl.erase i }))[r']? = some p':=hp
  rw [get_modA hq] at hp2
  split at hp2
  ·rename_i e
   subst e
   cases hp2
   refine (h.wl r' q hq).erase i (fun j=>?_) (fun j _ _=>rfl)
   by_cases e:j=i
   ·subst e
    rw [inwl_at hu]
    simp [Wi]
   ·rw [inwl_act (wi_ne (act:=act) j e)];simp [e]
  ·rename_i e
   refine (h.wl r' p' hp2).congr (fun j=>?_) (fun j _=>rfl)
   by_cases e2:j=i
   ·subst e2
    rw [inwl_at hu,inwl_at hu]
    simp [Wi]
    omega
   ·rw [inwl_act (wi_ne (act:=act) j e2)]
theorem Rel.enters (h:Rel act M K) (ht:K.threads[i]? = some t) (h3:t.st=3):Rel (Wi act i) M K:=by
 refine ⟨h.len,fun j t' p' hj hp=>?_,h.rows,fun r p' hp=>?_,h.sp,h.ps,h.lf,h.fr,h.cl⟩
 ·have R:=h.th j t' p' hj hp
  by_cases e:j=i
  ·subst e
   rw [ht] at hj
   cases hj
   exact R.enter (.inr rfl) (by omega)
  ·exact R.to_act (wi_ne j e)
 ·refine (h.wl r p' hp).congr (fun j=>?_) (fun j _=>rfl)
  by_cases e:j=i
  ·subst e;rw [inwl_at ht,inwl_at ht];simp [h3]
  ·rw [inwl_act (wi_ne (act:=act) j e)]
def askP (m:Ms) (p:PT):PT:={ p with tgt:=0,pw:=[],item:=0,rt:=0,frm:=m.frm,win:=m.win,wait:=m.wait,time:=0 }
theorem Rel.asks (h:Rel act M K) (ht:K.threads[i]? = some t) (s1:t.st=1) (m:Ms) (hw:-1<=m.win):Rel (Wi act i) (M.upd i (askP m)) (K.asks i m):=by
 have hl:(K.asks i m).threads.length=K.threads.length:=by simp [RM.asks,RM.upd]
 refine ⟨by rw [hl];simpa [PM.upd] using h.len,?_,fun r hr=>?_,fun r p' hp=>?_,h.sp,h.ps,h.lf,h.fr,h.cl⟩
 ·rw [hl]
  exact h.th_upd (act':=Wi act i) (i:=i) (f:=askP m) (g:=fun u=>{ u with dst:=m.dst,mw:=m.words,item:=m.item,rt:=m.rt,frm:=m.frm,win:=m.win,wait:=m.wait }) (fun t' p hj _ q=>by
   rw [ht] at hj;cases hj
   exact ⟨q.sp,q.row,q.left,q.st,q.code,q.who,q.ws,q.got,fun a=>⟨(q.idle a).1,fun b=>absurd (.inr rfl) b⟩,fun _=>⟨rfl,rfl,rfl,fun _=>rfl,hw⟩,fun a=>absurd s1 a,fun _ b=>absurd (.inr rfl) b⟩) wi_ne
 ·refine (h.rows r hr).congr (fun j=>?_) (fun j _=>?_)
  ·show _↔Inrow (K.threads.modify i _) r j
   rw [inrow_mod ht]
   by_cases e:j=i
   ·subst e;rw [inrow_at ht];simp
   ·simp [e]
  ·show ordM (K.threads.modify i _) j=_
   rw [ordM_mod ht]
   split
   ·rename_i e;subst e;rw [ordM_at ht]
   ·rfl
 ·obtain ⟨p,hp,e1⟩:=wl_upd (M:=M) (f:=askP m) (fun _=>rfl) hp
  rw [e1]
  exact h.wlSame ht (.inl (by omega)) (g:=fun u=>{ u with dst:=m.dst,mw:=m.words,item:=m.item,rt:=m.rt,frm:=m.frm,win:=m.win,wait:=m.wait }) (.inl (by show t.st≠2;omega)) wi_ne hp
theorem Rel.setLeft (h:Rel act M K) (ht:K.threads[i]? = some t) (n:Int) (f:PT->PT) (hf:∀ p,M.threads[i]? = some p->f p={ p with left:=n }):Rel act (M.upd i f) (K.setLeft i n):=by
 have hl:(K.setLeft i n).threads.length=K.threads.length:=by simp [RM.setLeft,RM.upd]
 refine ⟨by rw [hl];simpa [PM.upd] using h.len,?_,fun r hr=>?_,fun r p' hp=>?_,h.sp,h.ps,h.lf,h.fr,h.cl⟩
 ·rw [hl]
  exact h.th_upd (act':=act) (i:=i) (f:=f) (g:=fun u=>{ u with left:=n }) (fun t' p hj hp q=>by
   rw [hf p hp]
   exact ⟨q.sp,q.row,rfl,q.st,q.code,q.who,q.ws,q.got,q.idle,q.talk,q.time,q.send⟩) (fun _ _=>Iff.rfl)
 ·refine (h.rows r hr).congr (fun j=>?_) (fun j _=>?_)
  ·show _↔Inrow (K.threads.modify i _) r j
   rw [inrow_mod ht]
   by_cases e:j=i
   ·subst e;rw [inrow_at ht];simp
   ·simp [e]
  ·show ordM (K.threads.modify i _) j=_
   rw [ordM_mod ht]
   split
   ·rename_i e;subst e;rw [ordM_at ht]
   ·rfl
 ·have hp2:(M.threads.modify i f)[r]? = some p':=hp
  have:∃ p,M.threads[r]? = some p/\p'.wl=p.wl:=by
   rw [List.getElem?_modify] at hp2
   rcases hy:M.threads[r]? with _ | y
   ·rw [hy] at hp2;simp at hp2
   ·rw [hy] at hp2
    by_cases e:i=r
    ·subst e
     simp at hp2
     exact ⟨y,rfl,by rw [<- hp2,hf y hy]⟩
    ·simp [e] at hp2;exact ⟨y,rfl,by rw [<- hp2]⟩
  obtain ⟨p,hp,e1⟩:=this
  rw [e1]
  refine (h.wl r p hp).congr (fun j=>?_) (fun j _=>?_)
  ·show _↔Inwl _ (K.threads.modify i _) r j
   rw [inwl_mod ht]
   by_cases e:j=i
   ·subst e;rw [inwl_at ht];simp
   ·simp [e]
  ·show turnM (K.threads.modify i _) j=_
   rw [turnM_mod ht]
   split
   ·rename_i e;subst e;rw [turnM_at ht]
   ·rfl
theorem Rel.toLast (h:Rel act M K) (ft:K.Fit){b:Nat}(nm:K.Num b) (ht:K.threads[i]? = some t) (s1:t.st=1):Rel act (M.setLn t.row.toNat ((M.ln t.row.toNat).erase i ++ [i])) (K.toLast i):=by
 have hl:(K.toLast i).threads.length=K.threads.length:=by simp [RM.toLast,RM.upd]
 refine ⟨by rw [hl];exact h.len,fun j t' p' hj hp=>?_,fun r hr=>?_,fun r p' hp=>?_,h.sp,h.ps,h.lf,h.fr,h.cl⟩
 ·rw [hl]
  have hj2:(K.threads.modify i (fun u=>{ u with ord:=K.last }))[j]? = some t':=hj
  rw [get_mod ht] at hj2
  split at hj2
  ·rename_i e
   subst e
   cases hj2
   have R:=h.th j t p' ht hp
   exact ⟨R.sp,R.row,R.left,R.st,R.code,R.who,R.ws,R.got,R.idle,R.talk,R.time,R.send⟩
  ·exact h.th j t' p' hj2 hp
 ·exact h.rowsLast ft nm ht (g:=fun u=>{ u with ord:=K.last }) s1 rfl rfl r hr
 ·exact h.wlSame ht (.inl (by omega)) (g:=fun u=>{ u with ord:=K.last }) (.inl (by show t.st≠2;omega)) (fun _ _=>Iff.rfl) hp
theorem Rel.clock (h:Rel act M K):Rel act { M with clock:=M.clock+1 } K.ticked:=⟨h.len,h.th,h.rows,h.wl,h.sp,h.ps,h.lf,h.fr,by show M.clock+1=K.clock+1;rw [h.cl]⟩
noncomputable def PM.heard (M:PM) (s r:Nat) (p q:PT) (stands:Bool):PM:=
 let M2:=({ M with leaves:=(lendP M.leaves p.sp p.item p.rt q.sp q.win).1 }:PM).upd s (fun p=>{ p with pw:=[],item:=0,rt:=0 })
 let M3:=if stands=true then M2 else M2.setLn q.row.toNat (r :: (M.ln q.row.toNat).erase r)
 M3.upd r (overP 0 s p.pw (lendP M.leaves p.sp p.item p.rt q.sp q.win).2)
theorem Rel.heard (h:Rel act M K) (ft:K.Fit){b:Nat}(nm:K.Num b){s r:Nat}{a c:Th}{p q:PT}(ha:K.threads[s]? = some a) (hc:K.threads[r]? = some c) (hp:M.threads[s]? = some p) (hq:M.threads[r]? = some q) (hsr:s≠r) (has:act s) (hcr:c.st=3\/act r) (par:Par a p) (stands:Bool) (hst:stands=true↔c.st=1) :
  Rel (Wo act r) (M.heard s r p q stands) (K.heard s r stands):=by
 have Ra:=h.th s a p ha hp
 have Rc:=h.th r c q hc hq
 have ta:=Rc.talk (hcr.imp (fun e=>by omega) id)
 have eL:lendL K.leaves a c=lendP M.leaves p.sp p.item p.rt q.sp q.win:=by rw [lendL_P,h.lf,Ra.sp,par.2.1,par.2.2.1,Rc.sp,ta.2.1]
 have h2:Rel act (M.upd s (fun p=>{ p with pw:=[],item:=0,rt:=0 })) K:=h.parcel has _ (fun p=>⟨p.tgt,[],0,0,rfl⟩)
 have ed:K.deliver s r={ K.upd r (fun u=>{ u with st:=1,time:=-1,code:=0,who:=s,ws:=a.mw,got:=(lendL K.leaves a c).2 }) with leaves:=(lendL K.leaves a c).1 }:=by
  unfold RM.deliver;rw [ha,hc]
 have hn2:c.st≠2\/act r:=hcr.imp (fun e=>by omega) id
 have thk:∀ g:Th->Th,(∀ u:Th,(g u).sp=u.sp/\(g u).row=u.row/\(g u).left=u.left/\(g u).st=1/\(g u).code=0/\(g u).who=s/\(g u).ws=a.mw/\(g u).got=(lendL K.leaves a c).2/\(g u).time=-1)->∀ (j:Nat) t' p',(K.threads.modify r g)[j]? = some t'->((M.upd s (fun p=>{ p with pw:=[],item:=0,rt:=0 })).threads.modify r (overP 0 s p.pw (lendP M.leaves p.sp p.item p.rt q.sp q.win).2))[j]? = some p'->RelT (Wo act r) K.threads.length j t' p':=by
  intro g hg
  refine h2.th_upd (act':=Wo act r) (i:=r) (fun t' p' _ _ R=>?_) wo_ne
  obtain ⟨g1,g2,g3,g4,g5,g6,g7,g8,g9⟩:=hg t'
  exact ⟨by rw [g1];exact R.sp,by rw [g2];exact R.row,by rw [g3];exact R.left,by rw [g4];rfl,by rw [g5];rfl,by rw [g6];rfl,by rw [g7,<- par.1];rfl,by rw [g8,eL];rfl,fun _=>⟨g9,fun _=>rfl⟩,fun e=>e.elim (fun e=>absurd g4 e) (fun e=>absurd rfl e.2),fun e=>absurd g4 e,fun e=>by omega⟩
 have hq2:∀ (j:Nat) p',((M.upd s (fun p=>{ p with pw:=[],item:=0,rt:=0 })).threads.modify r (overP 0 s p.pw (lendP M.leaves p.sp p.item p.rt q.sp q.win).2))[j]? = some p'->∃ y,(M.upd s (fun p=>{ p with pw:=[],item:=0,rt:=0 })).threads[j]? = some y/\p'.wl=y.wl:=fun j p' hj=>wl_upd (M:=M.upd s (fun p=>{ p with pw:=[],item:=0,rt:=0 })) (f:=overP 0 s p.pw (lendP M.leaves p.sp p.item p.rt q.sp q.win).2) (fun _=>rfl) hj
 by_cases e:stands=true
 ·have c1:=hst.1 e
  have ek:K.heard s r stands=K.deliver s r:=by unfold RM.heard;rw [if_pos e]
  have em:M.heard s r p q stands=(({ M with leaves:=(lendP M.leaves p.sp p.item p.rt q.sp q.win).1 }:PM).upd s (fun p=>{ p with pw:=[],item:=0,rt:=0 })).upd r (overP 0 s p.pw (lendP M.leaves p.sp p.item p.rt q.sp q.win).2):=by unfold PM.heard;simp only [e,if_true]
  rw [ek,ed,em]
  refine ⟨by simpa [PM.upd,RM.upd] using h.len,?_,fun r' hr=>?_,fun r' p' hp'=>?_,h.sp,h.ps,by rw [eL];rfl,h.fr,h.cl⟩
  ·intro j t' p' hj hp'
   have:=thk (fun u=>{ u with st:=1,time:=-1,code:=0,who:=s,ws:=a.mw,got:=(lendL K.leaves a c).2 }) (fun u=>⟨rfl,rfl,rfl,rfl,rfl,rfl,rfl,rfl,rfl⟩) j t' p' hj hp'
   simpa [RM.upd] using this
  ·refine (h.rows r' hr).congr (fun j=>?_) (fun j _=>?_)
   ·show _↔Inrow (K.threads.modify r _) r' j
    rw [inrow_mod hc]
    by_cases e:j=r
    ·subst e;rw [inrow_at hc];simp [c1]
    ·simp [e]
   ·show ordM (K.threads.modify r _) j=_
    rw [ordM_mod hc]
    split
    ·rename_i e;subst e;rw [ordM_at hc]
    ·rfl
  ·obtain ⟨y,hy,e1⟩:=hq2 r' p' hp'
   rw [e1]
   exact h2.wlSame hc hn2 (g:=fun u=>{ u with st:=1,time:=-1,code:=0,who:=s,ws:=a.mw,got:=(lendL K.leaves a c).2 }) (.inl (by simp)) wo_ne hy
 ·have c1:c.st≠1:=fun x=>e (hst.2 x)
  have ek:K.heard s r stands=(K.deliver s r).toFirst r:=by unfold RM.heard;rw [if_neg e]
  have em:M.heard s r p q stands=((({ M with leaves:=(lendP M.leaves p.sp p.item p.rt q.sp q.win).1 }:PM).upd s (fun p=>{ p with pw:=[],item:=0,rt:=0 })).setLn q.row.toNat (r :: (M.ln q.row.toNat).erase r)).upd r (overP 0 s p.pw (lendP M.leaves p.sp p.item p.rt q.sp q.win).2):=by unfold PM.heard;simp only [e];rfl
  have et:(K.heard s r stands).threads=K.threads.modify r (fun u=>{ u with st:=1,time:=-1,code:=0,who:=s,ws:=a.mw,got:=(lendL K.leaves a c).2,ord:=K.first }):=by
   rw [ek,ed]
   exact modify_two (h:=fun u:Th=>{ u with st:=1,time:=-1,code:=0,who:=s,ws:=a.mw,got:=(lendL K.leaves a c).2,ord:=K.first }) hc rfl
  have eo:(K.heard s r stands).sp=K.sp/\(K.heard s r stands).passes=K.passes/\(K.heard s r stands).leaves=(lendL K.leaves a c).1/\(K.heard s r stands).fr=K.fr/\(K.heard s r stands).clock=K.clock:=by rw [ek,ed];exact ⟨rfl,rfl,rfl,rfl,rfl⟩
  rw [em]
  refine ⟨by rw [et];simpa [PM.upd,PM.setLn] using h.len,?_,fun r' hr=>?_,fun r' p' hp'=>?_,by rw [eo.1];exact h.sp,by rw [eo.2.1];exact h.ps,by rw [eo.2.2.1,eL];rfl,by rw [eo.2.2.2.1];exact h.fr,by rw [eo.2.2.2.2];exact h.cl⟩
  ·rw [et]
   intro j t' p' hj hp'
   have:=thk (fun u=>{ u with st:=1,time:=-1,code:=0,who:=s,ws:=a.mw,got:=(lendL K.leaves a c).2,ord:=K.first }) (fun u=>⟨rfl,rfl,rfl,rfl,rfl,rfl,rfl,rfl,rfl⟩) j t' p' hj hp'
   simpa using this
  ·rw [et,Rc.row]
   exact h2.rowsFirst ft nm hc (g:=fun u=>{ u with st:=1,time:=-1,code:=0,who:=s,ws:=a.mw,got:=(lendL K.leaves a c).2,ord:=K.first }) rfl rfl rfl r' hr
  ·rw [et]
   obtain ⟨y,hy,e1⟩:=hq2 r' p' hp'
   rw [e1]
   exact h2.wlSame hc hn2 (g:=fun u=>{ u with st:=1,time:=-1,code:=0,who:=s,ws:=a.mw,got:=(lendL K.leaves a c).2,ord:=K.first }) (.inl (by simp)) wo_ne hy
end
end Go.Proofs.YteejjgbeknnmeaaGreatDoor
