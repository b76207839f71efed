import Derived.Test.YteejjgbeknnmeaaGreatDoorJ23
namespace Go.Proofs.YteejjgbeknnmeaaGreatDoor
open Go.RowKit
theorem isMs_in {k:Nat}{m:Ms}(h:isMs k m=true):(-1<=m.dst/\m.dst<=5)/\(-2<=m.frm/\m.frm<=(k:Int)-1)/\(-1<=m.item/\m.item<=5)/\(0<=m.rt/\m.rt<=3)/\(-1<=m.win/\m.win<=5)/\m.words.length<=4/\-1<=m.wait:=by
 simp only [isMs,Bool.and_eq_true] at h
 obtain ⟨h1,h2,h3,h4,h5,h6,h7,_⟩:=h
 exact ⟨inI_true.1 h1,inI_true.1 h2,inI_true.1 h3,inI_true.1 h4,inI_true.1 h5,by have:=of_decide_eq_true h6;omega,of_decide_eq_true h7⟩
theorem ipc_recv {K:RM}{m:Ms}{t:Nat}(hc:K.cur=t) (hm:isMs K.threads.length m=true) (hd:m.dst < 0):K.ipc m=(0,(K.asks t m).recv 7 t true):=by
 unfold RM.ipc
 rw [if_neg (by omega),if_neg (by rw [hm];simp),if_pos hd,hc,Int.toNat_natCast]
theorem ipc_send {K:RM}{m:Ms}{t:Nat}{u:Th}(hc:K.cur=t) (hu:K.threads[t]? = some u) (hm:isMs K.threads.length m=true) (hd:¬ m.dst < 0) :
  K.ipc m=match findQ K.passes u.sp m.dst with
   | none=>(0,(K.asks t m).over t 4)
   | some p=>if bits .and .i64 p.2.2.2 1=0\/p.2.2.1=t then (0,(K.asks t m).over t 4) else (0,((K.asks t m).lendsTo t (bits .and .i64 p.2.2.2 2 != 0)).sends t p.2.2.1.toNat m):=by
 unfold RM.ipc
 rw [if_neg (by omega),if_neg (by rw [hm];simp),if_neg hd,hc,Int.toNat_natCast,hu]
 show (match findQ K.passes u.sp m.dst with | none=>_ | some p=>_)=_
 cases findQ K.passes u.sp m.dst <;> rfl
theorem send_ipc (B:Bk) (S:Nat->Prop) (M:PM) (K:RM) (n t:Nat) (u:Th) (p:PT) (m:Ms) (w:World) (h:PRep w B S M) (R:Rel (only t) M (K.asks t m)) (ok:K.Ok n) (hc:K.cur=t) (hu:K.threads[t]? = some u) (s1:u.st=1) (hm:isMs K.threads.length m=true) (hd:0<=m.dst) (hp:M.threads[t]? = some p) (par:p.pw=m.words/\p.item=m.item/\p.rt=m.rt) :
  Calls Tryz.prog 86 #[.pointer (some ⟨B.x,0,none⟩),.int .i64 t,.int .i64 m.dst] w fun e w'=>e=.returned (.tuple #[])/\(K.ipc m).1=0/\KLeft B S none_ (K.ipc m).2 w w':=by
 have mi:=isMs_in hm
 obtain ⟨j,ej⟩:=Int.eq_ofNat_of_zero_le hd
 have fa:=ok.ft.th t u hu
 obtain ⟨a,ea⟩:=Int.eq_ofNat_of_zero_le fa.s0
 have ft2:=ok.ft.asks t m mi.2.2.2.2.2.1 (by omega)
 have nm2:=num_clo.asks _ K t m ok.nm
 have hu2:(K.asks t m).threads[t]? = some { u with dst:=m.dst,mw:=m.words,item:=m.item,rt:=m.rt,frm:=m.frm,win:=m.win,wait:=m.wait }:=get_modify _ hu
 have RT:=R.th t _ p hu2 hp
 have hps:M.passes=K.passes:=R.ps
 rw [ipc_send hc hu hm (by omega),ea,ej]
 rcases hf:findQ K.passes a j with _ | q
 ·refine (send_no B S M (K.asks t m) _ t _ p a j 0 0 w h R ft2 nm2 hu2 s1 hp (by rw [RT.sp];exact ea) (by omega) (by rw [hps,hf];rfl) (by rw [hps,hf];rfl) (.inl rfl)).mono ?_
  rintro e w' ⟨rfl,L⟩
  exact ⟨rfl,rfl,L⟩
 ·obtain ⟨i,hi⟩:=List.getElem?_of_mem (List.mem_of_find?_eq_some (show List.find? _ K.passes=some q from hf))
  have oq:=ok.oq i q hi
  have x3:q.2.2.2=0\/q.2.2.2=1\/q.2.2.2=2\/q.2.2.2=3:=by have:=oq.2.2.2.2.2.2.1;have:=oq.2.2.2.2.2.2.2;omega
  have b1:=bits_one x3 (a:=1) (.inl rfl)
  have b2:=bits_one x3 (a:=2) (.inr rfl)
  by_cases c:bits .and .i64 q.2.2.2 1=0\/q.2.2.1=t
  ·refine (send_no B S M (K.asks t m) _ t _ p a j q.2.2.2 q.2.2.1 w h R ft2 nm2 hu2 s1 hp (by rw [RT.sp];exact ea) (by omega) (by rw [hps,hf];rfl) (by rw [hps,hf];rfl) (c.imp (fun e=>by rw [b1,e];rfl) id)).mono ?_
   rintro e w' ⟨rfl,L⟩
   simp only [if_pos c]
   exact ⟨trivial,trivial,L⟩
  ·obtain ⟨r,er⟩:=Int.eq_ofNat_of_zero_le oq.2.2.2.2.1
   have hne:r≠t:=fun e=>c (.inr (by rw [er,e]))
   have hrl:r < (K.asks t m).threads.length:=by
    have:=oq.2.2.2.2.2.1
    have e9:(K.asks t m).threads.length=K.threads.length:=by simp [RM.asks,RM.upd]
    omega
   refine (send_yes B S M (K.asks t m) _ t _ p a j q.2.2.2 w r m (bits .and .i64 q.2.2.2 2 != 0) h R ft2 nm2 hu2 s1 hp (by rw [RT.sp];exact ea) (by omega) (by rw [hps,hf];rfl) (by rw [hps,hf];exact er) (by rw [b1];simp;exact fun e=>c (.inl e)) b2 hne hrl ⟨par.1,par.2.1,par.2.2,by show -1<=m.item;omega,by show m.item<=5;omega⟩ rfl).mono ?_
   rintro e w' ⟨rfl,L⟩
   simp only [if_neg c]
   rw [er]
   exact ⟨trivial,trivial,L⟩
end Go.Proofs.YteejjgbeknnmeaaGreatDoor
