import Derived.Test.YteejjgbeknnmeaaGreatDoorG04
import Derived.Deep.QuietTactic
import Derived.BigQuiet
import Derived.BigRegion
import Derived.Deep.RegionHeld3
import Derived.Deep.RegionHeldLaw
import Derived.Deep.DeepCutAuto
set_option maxRecDepth 100000
set_option maxHeartbeats 20000000
namespace Go.Proofs.YteejjgbeknnmeaaGreatDoor
open Go.RowKit
theorem rmPass_any (y:Nat) (K:RM) (vt vp vl:Value) (sl:List (Sv×Sv)) (s n:Int) (w:World) (h:RmAt w y K vt vp vl sl) (hb:K.passes.length<=1000000000000) :
  Calls Tryz.prog 100 #[.pointer (some ⟨y,0,none⟩),.int .i64 s,.int .i64 n] w fun e w'=>∃ r,e=.returned (.int .i64 r)/\IxOf K.passes s n r/\w'=w:=by
 have hs:=h.pa
 have hc:w.cell? ⟨y,2,none⟩=some vp:=(cell_of_row w y 2 _ _ _ h.blk).trans rfl
 obtain ⟨a,c,ev⟩:=hs.slice
 rw [List.length_map] at ev
 subst ev
 obtain ⟨m,hn'⟩:∃ m,K.passes.length=m:=⟨_,rfl⟩
 rw [hn'] at hc hs hb
 generalize K.passes=L at hs hn' ⊢
 have HS:=hid hs
 have HN:=hid hn'
 clear hs h hn'
 go_enter Tryz.func100,Tryz.ntmps100
 go_wp2
 go_loop [7] (fun i=>∃ k:Nat,k<=m/\i=.int .i64 k/\Hid (∀ (i:Nat) p,i < k->L[i]? = some p->¬ (p.1=s/\p.2.1=n))) (fun i=>m-(intOf i).toNat)
 case atStart=>exact ⟨0,Nat.zero_le _,rfl,fun i p h=>absurd h (by omega)⟩
 case round=>
  obtain ⟨k,hk,rfl,hno⟩:=hrel
  by_cases hlt:k < m
  ·obtain ⟨p,hp⟩:∃ p,L[k]? = some p:=⟨_,List.getElem?_eq_getElem (by have:=HN.out;omega)⟩
   obtain ⟨g,ea,hx⟩:=HS.out.is_some (by omega)
   clear hx
   subst ea
   have r1:=HS.out.row (i:=k) (r:=[.int .i64 p.1,.int .i64 p.2.1,.int .i64 p.2.2.1,.int .i64 p.2.2.2]) (by rw [List.getElem?_map,hp];rfl)
   have g0:=r1 0 (.int .i64 p.1) rfl
   have g1:=r1 1 (.int .i64 p.2.1) rfl
   simp only [Nat.add_zero] at g0
   have HP:=hid hp
   clear r1 hp
   by_cases f0:p.1=s
   ·have d0:(p.1 == s)=true:=by simp [f0]
    by_cases f1:p.2.1=n
    ·have d1:(p.2.1 == n)=true:=by simp [f1]
     have F:=hid (And.intro f0 f1)
     clear f0 f1
     go_wp2
     go_ret
     exact ⟨_,rfl,.inr ⟨k,p,rfl,HP.out,F.out.1,F.out.2⟩,rfl⟩
    ·have d1:(p.2.1 == n)=false:=by simp [f1]
     have F:=hid f1
     clear f0 f1
     go_wp2
     exact ⟨⟨k+1,by omega,by go_num,ix_step hno HP.out (fun h=>F.out h.2)⟩,by simp [intOf];omega⟩
   ·have d0:(p.1 == s)=false:=by simp [f0]
    have F:=hid f0
    clear f0
    go_wp2
    exact ⟨⟨k+1,by omega,by go_num,ix_step hno HP.out (fun h=>F.out h.1)⟩,by simp [intOf];omega⟩
  ·go_wp2
   go_ret
   exact ⟨_,rfl,.inl ⟨rfl,fun i p hp=>hno.out i p (by have:=(List.getElem?_eq_some_iff.1 hp).1;have:=HN.out;omega) hp⟩,rfl⟩
def IxLf (L:List Lf) (s n r:Int):Prop:=
 (r=-1/\∀ (i:Nat) p,L[i]? = some p->¬ (p.sp=s/\p.pg=n))\/∃ (i:Nat) (p:Lf),r=i/\L[i]? = some p/\p.sp=s/\p.pg=n
theorem ixl_step {L:List Lf}{s n:Int}{k:Nat}{p:Lf}(h:Hid (∀ (i:Nat) p,i < k->L[i]? = some p->¬ (p.sp=s/\p.pg=n))) (hp:L[k]? = some p) (hn:¬ (p.sp=s/\p.pg=n)) :
  Hid (∀ (i:Nat) p,i < k+1->L[i]? = some p->¬ (p.sp=s/\p.pg=n)):=fun i q hi hq=>by
 by_cases e:i < k
 ·exact h.out i q e hq
 ·have:i=k:=by omega
  subst this
  rw [hp] at hq
  cases hq
  exact hn
theorem rmLeaf_any (y:Nat) (K:RM) (vt vp vl:Value) (sl:List (Sv×Sv)) (s n:Int) (w:World) (h:RmAt w y K vt vp vl sl) (hb:K.leaves.length<=1000000000000) :
  Calls Tryz.prog 107 #[.pointer (some ⟨y,0,none⟩),.int .i64 s,.int .i64 n] w fun e w'=>∃ r,e=.returned (.int .i64 r)/\IxLf K.leaves s n r/\w'=w:=by
 have hs:=h.le
 have hc:w.cell? ⟨y,3,none⟩=some vl:=(cell_of_row w y 3 _ _ _ h.blk).trans rfl
 obtain ⟨a,c,ev⟩:=hs.slice
 rw [List.length_map] at ev
 subst ev
 obtain ⟨m,hn'⟩:∃ m,K.leaves.length=m:=⟨_,rfl⟩
 rw [hn'] at hc hs hb
 generalize K.leaves=L at hs hn' ⊢
 have HS:=hid hs
 have HN:=hid hn'
 clear hs h hn'
 go_enter Tryz.func107,Tryz.ntmps107
 go_wp2
 go_loop [7] (fun i=>∃ k:Nat,k<=m/\i=.int .i64 k/\Hid (∀ (i:Nat) p,i < k->L[i]? = some p->¬ (p.sp=s/\p.pg=n))) (fun i=>m-(intOf i).toNat)
 case atStart=>exact ⟨0,Nat.zero_le _,rfl,fun i p h=>absurd h (by omega)⟩
 case round=>
  obtain ⟨k,hk,rfl,hno⟩:=hrel
  by_cases hlt:k < m
  ·obtain ⟨p,hp⟩:∃ p,L[k]? = some p:=⟨_,List.getElem?_eq_getElem (by have:=HN.out;omega)⟩
   obtain ⟨g,ea,hx⟩:=HS.out.is_some (by omega)
   clear hx
   subst ea
   have r1:=HS.out.row (i:=k) (r:=[.int .i64 p.sp,.int .i64 p.pg,.int .i64 p.fr,.int .i64 p.rt,.int .i64 p.usp,.int .i64 p.upg]) (by rw [List.getElem?_map,hp];rfl)
   have g0:=r1 0 (.int .i64 p.sp) rfl
   have g1:=r1 1 (.int .i64 p.pg) rfl
   simp only [Nat.add_zero] at g0
   have HP:=hid hp
   clear r1 hp
   by_cases f0:p.sp=s
   ·have d0:(p.sp == s)=true:=by simp [f0]
    by_cases f1:p.pg=n
    ·have d1:(p.pg == n)=true:=by simp [f1]
     have F:=hid (And.intro f0 f1)
     clear f0 f1
     go_wp2
     go_ret
     exact ⟨_,rfl,.inr ⟨k,p,rfl,HP.out,F.out.1,F.out.2⟩,rfl⟩
    ·have d1:(p.pg == n)=false:=by simp [f1]
     have F:=hid f1
     clear f0 f1
     go_wp2
     exact ⟨⟨k+1,by omega,by go_num,ixl_step hno HP.out (fun h=>F.out h.2)⟩,by simp [intOf];omega⟩
   ·have d0:(p.sp == s)=false:=by simp [f0]
    have F:=hid f0
    clear f0
    go_wp2
    exact ⟨⟨k+1,by omega,by go_num,ixl_step hno HP.out (fun h=>F.out h.1)⟩,by simp [intOf];omega⟩
  ·go_wp2
   go_ret
   exact ⟨_,rfl,.inl ⟨rfl,fun i p hp=>hno.out i p (by have:=(List.getElem?_eq_some_iff.1 hp).1;have:=HN.out;omega) hp⟩,rfl⟩
def curStep (ts:List Th) (c:Int) (k:Nat):Int:=
 match ts[k]? with
 | none=>c
 | some t=>if t.st≠1 then c else if c < 0 then k else
  match ts[c.toNat]? with
  | none=>c
  | some u=>if u.row < t.row\/(t.row=u.row/\t.ord < u.ord) then k else c
def curM (ts:List Th):Nat->Int
 | 0=>-1
 | k+1=>curStep ts (curM ts k) k
def RM.cur (K:RM):Int:=curM K.threads K.threads.length
theorem curM_inv (ts:List Th):∀ k,k<=ts.length->curM ts k=-1\/∃ (j:Nat) (u:Th),curM ts k=j/\j < k/\ts[j]? = some u/\u.st=1
 | 0,_=>.inl rfl
 | k+1,h=>by
  obtain ⟨t,ht⟩:∃ t,ts[k]? = some t:=⟨_,List.getElem?_eq_getElem h⟩
  have ih:=curM_inv ts k (by omega)
  by_cases hst:t.st=1
  ·rcases ih with e | ⟨j,u,e,hj,hu,h1⟩
   ·right
    refine ⟨k,t,?_,by omega,ht,hst⟩
    simp [curM,curStep,ht,hst,e]
   ·right
    have e2:(curM ts k).toNat=j:=by rw [e];simp
    by_cases hc:u.row < t.row\/(t.row=u.row/\t.ord < u.ord)
    ·refine ⟨k,t,?_,by omega,ht,hst⟩
     simp only [curM,curStep,ht,e2,hu]
     rw [if_neg (by simpa using hst),if_neg (by omega),if_pos hc]
    ·refine ⟨j,u,?_,by omega,hu,h1⟩
     simp only [curM,curStep,ht,e2,hu]
     rw [if_neg (by simpa using hst),if_neg (by omega),if_neg hc,e]
  ·have e3:curM ts (k+1)=curM ts k:=by simp [curM,curStep,ht,hst]
   rw [e3]
   rcases ih with e | ⟨j,u,e,hj,hu,h1⟩
   ·exact .inl e
   ·exact .inr ⟨j,u,e,by omega,hu,h1⟩
theorem curM_skip {ts:List Th}{k:Nat}{t:Th}(h:ts[k]? = some t) (hst:t.st≠1):curM ts (k+1)=curM ts k:=by simp [curM,curStep,h,hst]
theorem curM_first {ts:List Th}{k:Nat}{t:Th}(h:ts[k]? = some t) (hst:t.st=1) (e:curM ts k=-1):curM ts (k+1)=k:=by simp [curM,curStep,h,hst,e]
theorem curM_new {ts:List Th}{k j:Nat}{t u:Th}(ht:ts[k]? = some t) (hst:t.st=1) (e:curM ts k=j) (hu:ts[j]? = some u) (h:u.row < t.row\/(t.row=u.row/\t.ord < u.ord)):curM ts (k+1)=k:=by
 have e2:(curM ts k).toNat=j:=by rw [e];simp
 simp only [curM,curStep,ht,e2,hu]
 rw [if_neg (by simpa using hst),if_neg (by omega),if_pos h]
theorem curM_old {ts:List Th}{k j:Nat}{t u:Th}(ht:ts[k]? = some t) (hst:t.st=1) (e:curM ts k=j) (hu:ts[j]? = some u) (h:¬ (u.row < t.row\/(t.row=u.row/\t.ord < u.ord))):curM ts (k+1)=j:=by
 have e2:(curM ts k).toNat=j:=by rw [e];simp
 simp only [curM,curStep,ht,e2,hu]
 rw [if_neg (by simpa using hst),if_neg (by omega),if_neg h,e]
def senStep (ts:List Th) (t f:Int) (c:Int) (k:Nat):Int:=
 match ts[k]? with
 | none=>c
 | some x=>if x.st≠2\/x.other≠t\/(f≠-1/\f≠k) then c else if c < 0 then k else
  match ts[c.toNat]? with
  | none=>c
  | some u=>if x.turn < u.turn then k else c
def senM (ts:List Th) (t f:Int):Nat->Int
 | 0=>-1
 | k+1=>senStep ts t f (senM ts t f k) k
theorem senM_inv (ts:List Th) (t f:Int):∀ k,k<=ts.length->senM ts t f k=-1\/∃ (j:Nat) (u:Th),senM ts t f k=j/\j < k/\ts[j]? = some u/\u.st=2/\u.other=t/\(f=-1\/f=j)
 | 0,_=>.inl rfl
 | k+1,h=>by
  obtain ⟨x,hx⟩:∃ x,ts[k]? = some x:=⟨_,List.getElem?_eq_getElem h⟩
  have ih:=senM_inv ts t f k (by omega)
  by_cases hs:x.st≠2\/x.other≠t\/(f≠-1/\f≠k)
  ·have e3:senM ts t f (k+1)=senM ts t f k:=by simp only [senM,senStep,hx];rw [if_pos hs]
   rw [e3]
   rcases ih with e | ⟨j,u,e,hj,hu⟩
   ·exact .inl e
   ·exact .inr ⟨j,u,e,by omega,hu⟩
  ·have hs':x.st=2/\x.other=t/\(f=-1\/f=k):=by omega
   right
   rcases ih with e | ⟨j,u,e,hj,hu,h1⟩
   ·refine ⟨k,x,?_,by omega,hx,hs'⟩
    simp only [senM,senStep,hx]
    rw [if_neg hs,if_pos (by omega)]
   ·have e2:(senM ts t f k).toNat=j:=by rw [e];simp
    by_cases hc:x.turn < u.turn
    ·refine ⟨k,x,?_,by omega,hx,hs'⟩
     simp only [senM,senStep,hx,e2,hu]
     rw [if_neg hs,if_neg (by omega),if_pos hc]
    ·refine ⟨j,u,?_,by omega,hu,h1⟩
     simp only [senM,senStep,hx,e2,hu]
     rw [if_neg hs,if_neg (by omega),if_neg hc,e]
theorem senM_skip {ts:List Th}{t f:Int}{k:Nat}{x:Th}(h:ts[k]? = some x) (hs:x.st≠2\/x.other≠t\/(f≠-1/\f≠k)):senM ts t f (k+1)=senM ts t f k:=by simp only [senM,senStep,h];rw [if_pos hs]
theorem senM_first {ts:List Th}{t f:Int}{k:Nat}{x:Th}(h:ts[k]? = some x) (hs:¬ (x.st≠2\/x.other≠t\/(f≠-1/\f≠k))) (e:senM ts t f k=-1):senM ts t f (k+1)=k:=by simp only [senM,senStep,h];rw [if_neg hs,if_pos (by omega)]
theorem senM_new {ts:List Th}{t f:Int}{k j:Nat}{x u:Th}(h:ts[k]? = some x) (hs:¬ (x.st≠2\/x.other≠t\/(f≠-1/\f≠k))) (e:senM ts t f k=j) (hu:ts[j]? = some u) (hc:x.turn < u.turn):senM ts t f (k+1)=k:=by
 have e2:(senM ts t f k).toNat=j:=by rw [e];simp
 simp only [senM,senStep,h,e2,hu]
 rw [if_neg hs,if_neg (by omega),if_pos hc]
theorem senM_old {ts:List Th}{t f:Int}{k j:Nat}{x u:Th}(h:ts[k]? = some x) (hs:¬ (x.st≠2\/x.other≠t\/(f≠-1/\f≠k))) (e:senM ts t f k=j) (hu:ts[j]? = some u) (hc:¬ x.turn < u.turn):senM ts t f (k+1)=j:=by
 have e2:(senM ts t f k).toNat=j:=by rw [e];simp
 simp only [senM,senStep,h,e2,hu]
 rw [if_neg hs,if_neg (by omega),if_neg hc,e]
theorem rmCurrent_any (y:Nat) (K:RM) (vt vp vl:Value) (sl:List (Sv×Sv)) (w:World) (h:RmAt w y K vt vp vl sl) (hb:K.threads.length<=6) :
  Calls Tryz.prog 59 #[.pointer (some ⟨y,0,none⟩)] w fun e w'=>e=.returned (.int .i64 K.cur)/\Below w.heap.size w w':=by
 unfold RM.cur
 have hs:=h.th
 have hc:w.cell? ⟨y,0,none⟩=some vt:=(h.cell 0).trans rfl
 have ly:=h.ly
 have hln:=h.ln
 obtain ⟨a,c,ev⟩:=hs.slice
 rw [trows_len h.ln] at ev
 subst ev
 obtain ⟨m,hn'⟩:∃ m,K.threads.length=m:=⟨_,rfl⟩
 rw [hn'] at hc hs hb hln ⊢
 generalize K.threads=ts at hs hn' ⊢
 have HS:=hid hs
 have HN:=hid (And.intro hn' hln)
 have HC:=hid hc
 clear hs h hn' hc hln
 go_enter Tryz.func59,Tryz.ntmps59
 go_wp2
 go_loopw [3,4] (fun c i wr=>∃ k:Nat,k<=m/\i=.int .i64 k/\c=.int .i64 (curM ts k)/\Below w.heap.size w wr) (fun _ i _=>m-(intOf i).toNat)
 case atStart=>exact ⟨0,Nat.zero_le _,rfl,rfl,Below.refl _ _⟩
 case round=>
  obtain ⟨k,hk,rfl,ec,hw⟩:=hrel
  have c0:wr.cell? ⟨y,0,none⟩=some (.slice a m c):=(hw.cell (p:=⟨y,0,none⟩) ly).trans HC.out
  have lw:=Nat.lt_of_lt_of_le ly hw.size
  have HW:=hid hw
  by_cases hlt:k < m
  ·obtain ⟨t,ht⟩:∃ t,ts[k]? = some t:=⟨_,List.getElem?_eq_getElem (by have:=HN.out;omega)⟩
   obtain ⟨s,hs⟩:∃ s,sl[k]? = some s:=⟨_,List.getElem?_eq_getElem (by have:=HN.out;omega)⟩
   obtain ⟨g,ea,hx⟩:=HS.out.is_some (by omega)
   clear hx
   subst ea
   have R1:=hid ((HS.out.below hw).row (i:=k) (r:=[.int .i64 t.sp,.int .i64 t.row,.int .i64 t.st,.int .i64 t.ord,.int .i64 t.left,.int .i64 t.dst,.slice s.1.a s.1.n s.1.c,.int .i64 t.item,.int .i64 t.rt,.int .i64 t.frm,.int .i64 t.win,.int .i64 t.wait,.bool t.lends,.int .i64 t.other,.int .i64 t.turn,.int .i64 t.time,.int .i64 t.code,.int .i64 t.who,.slice s.2.a s.2.n s.2.c,.int .i64 t.got]) (trows_get ht hs))
   have lg:g < wr.heap.size:=Nat.lt_of_lt_of_le (HS.out.lt rfl) hw.size
   have HT:=hid ht
   clear hs
   by_cases q9:t.st=1
   ·have d9:(t.st != 1)=false:=by simp [q9]
    have Q9:=hid q9
    clear q9
    rcases curM_inv ts k (by have:=HN.out;omega) with e | ⟨j,u,e,hj,hu,_⟩
    ·rw [e] at ec
     subst ec
     have E:=hid e
     clear hw ht e
     go_wp2_with (first | (with_reducible (show wpList _ _ _ (⟨_,.load 190 _,_,_,_,none⟩ :: _) _ _);go_must (refine wpList_load_mid rfl 190 _ rfl g (k*20) rfl _ _ R1.out Tryz.underlying190 rfl (by kernel_rfl) ?_)) | (with_reducible (show wpList _ _ _ (⟨_,.store 190 _ _,_,_,_,none⟩ :: _) _ _);go_must (refine wpList_store_new rfl 190 _ _ rfl wr _ #[.int .i64 t.sp,.int .i64 t.row,.int .i64 t.st,.int .i64 t.ord,.int .i64 t.left,.int .i64 t.dst,.slice s.1.a s.1.n s.1.c,.int .i64 t.item,.int .i64 t.rt,.int .i64 t.frm,.int .i64 t.win,.int .i64 t.wait,.bool t.lends,.int .i64 t.other,.int .i64 t.turn,.int .i64 t.time,.int .i64 t.code,.int .i64 t.who,.slice s.2.a s.2.n s.2.c,.int .i64 t.got] 190 rfl rfl (by kernel_rfl) rfl ?_ ?_);(simp [Value.oneCell'])))
     go_quiet (fail)
     go_wp2
     first
      | exact ⟨⟨k+1,by omega,by go_num,val_int (curM_first HT.out Q9.out E.out).symm,below_drewN (HW.out.alloc HW.out.size _) _⟩,by simp [intOf];omega⟩
      | (
       go_roundw
       case rel=>first | exact ⟨k+1,by omega,by go_num,val_int (curM_first HT.out Q9.out E.out).symm,below_drewN (HW.out.alloc HW.out.size _) _⟩ | ((repeat apply Exists.intro);exact ⟨⟨k+1,by omega,by go_num,val_int (curM_first HT.out Q9.out E.out).symm,below_drewN (HW.out.alloc HW.out.size _) _⟩,rfl⟩)
       case measure=>simp [intOf];omega)
    ·rw [e] at ec
     subst ec
     obtain ⟨s2,hs2⟩:∃ s2,sl[j]? = some s2:=⟨_,List.getElem?_eq_getElem (by have:=HN.out;omega)⟩
     have r2:=(HS.out.below hw).row (i:=j) (r:=[.int .i64 u.sp,.int .i64 u.row,.int .i64 u.st,.int .i64 u.ord,.int .i64 u.left,.int .i64 u.dst,.slice s2.1.a s2.1.n s2.1.c,.int .i64 u.item,.int .i64 u.rt,.int .i64 u.frm,.int .i64 u.win,.int .i64 u.wait,.bool u.lends,.int .i64 u.other,.int .i64 u.turn,.int .i64 u.time,.int .i64 u.code,.int .i64 u.who,.slice s2.2.a s2.2.n s2.2.c,.int .i64 u.got]) (trows_get hu hs2)
     have u1:wr.cell? ⟨g,j*20+1,none⟩=some (.int .i64 u.row):=r2 1 _ rfl
     have u3:wr.cell? ⟨g,j*20+3,none⟩=some (.int .i64 u.ord):=r2 3 _ rfl
     have HU:=hid (And.intro e hu)
     have jm:j < m:=by omega
     have jm':(j:Int) < (m:Int):=by omega
     have dn:decide ((j:Int) < 0)=false:=by simp
     clear hw ht e hu r2 hs2
     by_cases q0:u.row < t.row
     ·have d0:decide (u.row < t.row)=true:=by simpa using q0
      go_wp2_with (first | (with_reducible (show wpList _ _ _ (⟨_,.load 190 _,_,_,_,none⟩ :: _) _ _);go_must (refine wpList_load_mid rfl 190 _ rfl g (k*20) rfl _ _ R1.out Tryz.underlying190 rfl (by kernel_rfl) ?_)) | (with_reducible (show wpList _ _ _ (⟨_,.store 190 _ _,_,_,_,none⟩ :: _) _ _);go_must (refine wpList_store_new rfl 190 _ _ rfl wr _ #[.int .i64 t.sp,.int .i64 t.row,.int .i64 t.st,.int .i64 t.ord,.int .i64 t.left,.int .i64 t.dst,.slice s.1.a s.1.n s.1.c,.int .i64 t.item,.int .i64 t.rt,.int .i64 t.frm,.int .i64 t.win,.int .i64 t.wait,.bool t.lends,.int .i64 t.other,.int .i64 t.turn,.int .i64 t.time,.int .i64 t.code,.int .i64 t.who,.slice s.2.a s.2.n s.2.c,.int .i64 t.got] 190 rfl rfl (by kernel_rfl) rfl ?_ ?_);(simp [Value.oneCell'])))
      go_quiet (fail)
      go_wp2
      first
       | exact ⟨⟨k+1,by omega,by go_num,val_int (curM_new HT.out Q9.out HU.out.1 HU.out.2 (.inl q0)).symm,below_drewN (HW.out.alloc HW.out.size _) _⟩,by simp [intOf];omega⟩
       | (
        go_roundw
        case rel=>first | exact ⟨k+1,by omega,by go_num,val_int (curM_new HT.out Q9.out HU.out.1 HU.out.2 (.inl q0)).symm,below_drewN (HW.out.alloc HW.out.size _) _⟩ | ((repeat apply Exists.intro);exact ⟨⟨k+1,by omega,by go_num,val_int (curM_new HT.out Q9.out HU.out.1 HU.out.2 (.inl q0)).symm,below_drewN (HW.out.alloc HW.out.size _) _⟩,rfl⟩)
        case measure=>simp [intOf];omega)
     ·have d0:decide (u.row < t.row)=false:=by simpa using q0
      by_cases q1:t.row=u.row
      ·have d1:(t.row == u.row)=true:=by simp [q1]
       have Q1:=hid q1
       clear q1
       by_cases q2:t.ord < u.ord
       ·have d2:decide (t.ord < u.ord)=true:=by simpa using q2
        go_wp2_with (first | (with_reducible (show wpList _ _ _ (⟨_,.load 190 _,_,_,_,none⟩ :: _) _ _);go_must (refine wpList_load_mid rfl 190 _ rfl g (k*20) rfl _ _ R1.out Tryz.underlying190 rfl (by kernel_rfl) ?_)) | (with_reducible (show wpList _ _ _ (⟨_,.store 190 _ _,_,_,_,none⟩ :: _) _ _);go_must (refine wpList_store_new rfl 190 _ _ rfl wr _ #[.int .i64 t.sp,.int .i64 t.row,.int .i64 t.st,.int .i64 t.ord,.int .i64 t.left,.int .i64 t.dst,.slice s.1.a s.1.n s.1.c,.int .i64 t.item,.int .i64 t.rt,.int .i64 t.frm,.int .i64 t.win,.int .i64 t.wait,.bool t.lends,.int .i64 t.other,.int .i64 t.turn,.int .i64 t.time,.int .i64 t.code,.int .i64 t.who,.slice s.2.a s.2.n s.2.c,.int .i64 t.got] 190 rfl rfl (by kernel_rfl) rfl ?_ ?_);(simp [Value.oneCell'])))
        go_quiet (fail)
        go_wp2
        first
         | exact ⟨⟨k+1,by omega,by go_num,val_int (curM_new HT.out Q9.out HU.out.1 HU.out.2 (.inr ⟨Q1.out,q2⟩)).symm,below_drewN (HW.out.alloc HW.out.size _) _⟩,by simp [intOf];omega⟩
         | (
          go_roundw
          case rel=>first | exact ⟨k+1,by omega,by go_num,val_int (curM_new HT.out Q9.out HU.out.1 HU.out.2 (.inr ⟨Q1.out,q2⟩)).symm,below_drewN (HW.out.alloc HW.out.size _) _⟩ | ((repeat apply Exists.intro);exact ⟨⟨k+1,by omega,by go_num,val_int (curM_new HT.out Q9.out HU.out.1 HU.out.2 (.inr ⟨Q1.out,q2⟩)).symm,below_drewN (HW.out.alloc HW.out.size _) _⟩,rfl⟩)
          case measure=>simp [intOf];omega)
       ·have d2:decide (t.ord < u.ord)=false:=by simpa using q2
        go_wp2_with (first | (with_reducible (show wpList _ _ _ (⟨_,.load 190 _,_,_,_,none⟩ :: _) _ _);go_must (refine wpList_load_mid rfl 190 _ rfl g (k*20) rfl _ _ R1.out Tryz.underlying190 rfl (by kernel_rfl) ?_)) | (with_reducible (show wpList _ _ _ (⟨_,.store 190 _ _,_,_,_,none⟩ :: _) _ _);go_must (refine wpList_store_new rfl 190 _ _ rfl wr _ #[.int .i64 t.sp,.int .i64 t.row,.int .i64 t.st,.int .i64 t.ord,.int .i64 t.left,.int .i64 t.dst,.slice s.1.a s.1.n s.1.c,.int .i64 t.item,.int .i64 t.rt,.int .i64 t.frm,.int .i64 t.win,.int .i64 t.wait,.bool t.lends,.int .i64 t.other,.int .i64 t.turn,.int .i64 t.time,.int .i64 t.code,.int .i64 t.who,.slice s.2.a s.2.n s.2.c,.int .i64 t.got] 190 rfl rfl (by kernel_rfl) rfl ?_ ?_);(simp [Value.oneCell'])))
        go_quiet (fail)
        go_wp2
        first
         | exact ⟨⟨k+1,by omega,by go_num,val_int (curM_old HT.out Q9.out HU.out.1 HU.out.2 (by have:=Q1.out;omega)).symm,below_drewN (HW.out.alloc HW.out.size _) _⟩,by simp [intOf];omega⟩
         | (
          go_roundw
          case rel=>first | exact ⟨k+1,by omega,by go_num,val_int (curM_old HT.out Q9.out HU.out.1 HU.out.2 (by have:=Q1.out;omega)).symm,below_drewN (HW.out.alloc HW.out.size _) _⟩ | ((repeat apply Exists.intro);exact ⟨⟨k+1,by omega,by go_num,val_int (curM_old HT.out Q9.out HU.out.1 HU.out.2 (by have:=Q1.out;omega)).symm,below_drewN (HW.out.alloc HW.out.size _) _⟩,rfl⟩)
          case measure=>simp [intOf];omega)
      ·have d1:(t.row == u.row)=false:=by simp [q1]
       go_wp2_with (first | (with_reducible (show wpList _ _ _ (⟨_,.load 190 _,_,_,_,none⟩ :: _) _ _);go_must (refine wpList_load_mid rfl 190 _ rfl g (k*20) rfl _ _ R1.out Tryz.underlying190 rfl (by kernel_rfl) ?_)) | (with_reducible (show wpList _ _ _ (⟨_,.store 190 _ _,_,_,_,none⟩ :: _) _ _);go_must (refine wpList_store_new rfl 190 _ _ rfl wr _ #[.int .i64 t.sp,.int .i64 t.row,.int .i64 t.st,.int .i64 t.ord,.int .i64 t.left,.int .i64 t.dst,.slice s.1.a s.1.n s.1.c,.int .i64 t.item,.int .i64 t.rt,.int .i64 t.frm,.int .i64 t.win,.int .i64 t.wait,.bool t.lends,.int .i64 t.other,.int .i64 t.turn,.int .i64 t.time,.int .i64 t.code,.int .i64 t.who,.slice s.2.a s.2.n s.2.c,.int .i64 t.got] 190 rfl rfl (by kernel_rfl) rfl ?_ ?_);(simp [Value.oneCell'])))
       go_quiet (fail)
       go_wp2
       first
        | exact ⟨⟨k+1,by omega,by go_num,val_int (curM_old HT.out Q9.out HU.out.1 HU.out.2 (by omega)).symm,below_drewN (HW.out.alloc HW.out.size _) _⟩,by simp [intOf];omega⟩
        | (
         go_roundw
         case rel=>first | exact ⟨k+1,by omega,by go_num,val_int (curM_old HT.out Q9.out HU.out.1 HU.out.2 (by omega)).symm,below_drewN (HW.out.alloc HW.out.size _) _⟩ | ((repeat apply Exists.intro);exact ⟨⟨k+1,by omega,by go_num,val_int (curM_old HT.out Q9.out HU.out.1 HU.out.2 (by omega)).symm,below_drewN (HW.out.alloc HW.out.size _) _⟩,rfl⟩)
         case measure=>simp [intOf];omega)
   ·have d9:(t.st != 1)=true:=by simp [q9]
    have Q9:=hid q9
    subst ec
    clear q9 hw ht
    go_wp2_with (first | (with_reducible (show wpList _ _ _ (⟨_,.load 190 _,_,_,_,none⟩ :: _) _ _);go_must (refine wpList_load_mid rfl 190 _ rfl g (k*20) rfl _ _ R1.out Tryz.underlying190 rfl (by kernel_rfl) ?_)) | (with_reducible (show wpList _ _ _ (⟨_,.store 190 _ _,_,_,_,none⟩ :: _) _ _);go_must (refine wpList_store_new rfl 190 _ _ rfl wr _ #[.int .i64 t.sp,.int .i64 t.row,.int .i64 t.st,.int .i64 t.ord,.int .i64 t.left,.int .i64 t.dst,.slice s.1.a s.1.n s.1.c,.int .i64 t.item,.int .i64 t.rt,.int .i64 t.frm,.int .i64 t.win,.int .i64 t.wait,.bool t.lends,.int .i64 t.other,.int .i64 t.turn,.int .i64 t.time,.int .i64 t.code,.int .i64 t.who,.slice s.2.a s.2.n s.2.c,.int .i64 t.got] 190 rfl rfl (by kernel_rfl) rfl ?_ ?_);(simp [Value.oneCell'])))
    first
     | exact ⟨⟨k+1,by omega,by go_num,val_int (curM_skip HT.out Q9.out).symm,HW.out.alloc HW.out.size _⟩,by simp [intOf];omega⟩
     | (
      go_roundw
      case rel=>first | exact ⟨k+1,by omega,by go_num,val_int (curM_skip HT.out Q9.out).symm,HW.out.alloc HW.out.size _⟩ | ((repeat apply Exists.intro);exact ⟨⟨k+1,by omega,by go_num,val_int (curM_skip HT.out Q9.out).symm,HW.out.alloc HW.out.size _⟩,rfl⟩)
      case measure=>simp [intOf];omega)
  ·subst ec
   have ek:k=m:=by omega
   subst ek
   go_wp2
   go_ret
   exact ⟨rfl,HW.out⟩
theorem rmSender_any (y:Nat) (K:RM) (vt vp vl:Value) (sl:List (Sv×Sv)) (t0:Nat) (x0:Th) (w:World) (h:RmAt w y K vt vp vl sl) (hb:K.threads.length<=6) (hx0:K.threads[t0]? = some x0) :
  Calls Tryz.prog 145 #[.pointer (some ⟨y,0,none⟩),.int .i64 t0] w fun e w'=>e=.returned (.int .i64 (senM K.threads t0 x0.frm K.threads.length))/\Below w.heap.size w w':=by
 have hs:=h.th
 have hc:w.cell? ⟨y,0,none⟩=some vt:=(h.cell 0).trans rfl
 have ly:=h.ly
 have hln:=h.ln
 obtain ⟨s0,hs0⟩:=h.sl_get hx0
 have t0m:=(List.getElem?_eq_some_iff.1 hx0).1
 obtain ⟨a,c,ev⟩:=hs.slice
 rw [trows_len h.ln] at ev
 subst ev
 obtain ⟨m,hn'⟩:∃ m,K.threads.length=m:=⟨_,rfl⟩
 rw [hn'] at hc hs hb hln t0m ⊢
 generalize K.threads=ts at hs hn' hx0 ⊢
 have HS:=hid hs
 have HN:=hid (And.intro hn' (And.intro hln (And.intro hx0 hs0)))
 have HC:=hid hc
 have t0m':(t0:Int) < (m:Int):=by omega
 generalize hff:x0.frm=ff
 have HFF:=hid hff
 clear hs h hn' hc hln hx0 hs0 hff
 go_enter Tryz.func145,Tryz.ntmps145
 go_wp2
 go_loopw [5,6] (fun c i wr=>∃ k:Nat,k<=m/\i=.int .i64 k/\c=.int .i64 (senM ts t0 ff k)/\Below w.heap.size w wr) (fun _ i _=>m-(intOf i).toNat)
 case atStart=>exact ⟨0,Nat.zero_le _,rfl,rfl,Below.refl _ _⟩
 case round=>
  obtain ⟨k,hk,rfl,ec,hw⟩:=hrel
  have c0:wr.cell? ⟨y,0,none⟩=some (.slice a m c):=(hw.cell (p:=⟨y,0,none⟩) ly).trans HC.out
  have lw:=Nat.lt_of_lt_of_le ly hw.size
  have HW:=hid hw
  by_cases hlt:k < m
  ·obtain ⟨t,ht⟩:∃ t,ts[k]? = some t:=⟨_,List.getElem?_eq_getElem (by have:=HN.out;omega)⟩
   obtain ⟨s,hs⟩:∃ s,sl[k]? = some s:=⟨_,List.getElem?_eq_getElem (by have:=HN.out;omega)⟩
   obtain ⟨g,ea,hx⟩:=HS.out.is_some (by omega)
   clear hx
   subst ea
   have R1:=hid ((HS.out.below hw).row (i:=k) (r:=[.int .i64 t.sp,.int .i64 t.row,.int .i64 t.st,.int .i64 t.ord,.int .i64 t.left,.int .i64 t.dst,.slice s.1.a s.1.n s.1.c,.int .i64 t.item,.int .i64 t.rt,.int .i64 t.frm,.int .i64 t.win,.int .i64 t.wait,.bool t.lends,.int .i64 t.other,.int .i64 t.turn,.int .i64 t.time,.int .i64 t.code,.int .i64 t.who,.slice s.2.a s.2.n s.2.c,.int .i64 t.got]) (trows_get ht hs))
   have f9:wr.cell? ⟨g,t0*20+9,none⟩=some (.int .i64 ff):=by
    rw [<- HFF.out]
    exact (HS.out.below hw).row (i:=t0) (r:=trow x0 s0) (trows_get HN.out.2.2.1 HN.out.2.2.2) 9 _ rfl
   have lg:g < wr.heap.size:=Nat.lt_of_lt_of_le (HS.out.lt rfl) hw.size
   have km':(k:Int) < (m:Int):=by omega
   have HT:=hid ht
   clear hs
   by_cases q1:t.st=2
   ·have d1:(t.st != 2)=false:=by simp [q1]
    by_cases q2:t.other=t0
    ·have d2:(t.other != (t0:Int))=false:=by simp [q2]
     by_cases q3:ff=-1
     ·have d3:(ff != -1)=false:=by simp [q3]
      have NS:Hid (¬ (t.st≠2\/t.other≠(t0:Int)\/(ff≠-1/\ff≠(k:Int)))):=by unfold Hid;omega
      clear q1 q2 q3
      rcases senM_inv ts t0 ff k (by have:=HN.out;omega) with e | ⟨j,u,e,hj,hu,_⟩
      ·rw [e] at ec
       subst ec
       have E:=hid e
       clear hw ht e
       go_wp2_with (first | (with_reducible (show wpList _ _ _ (⟨_,.load 190 _,_,_,_,none⟩ :: _) _ _);go_must (refine wpList_load_mid rfl 190 _ rfl g (k*20) rfl _ _ R1.out Tryz.underlying190 rfl (by kernel_rfl) ?_)) | (with_reducible (show wpList _ _ _ (⟨_,.store 190 _ _,_,_,_,none⟩ :: _) _ _);go_must (refine wpList_store_new rfl 190 _ _ rfl wr _ #[.int .i64 t.sp,.int .i64 t.row,.int .i64 t.st,.int .i64 t.ord,.int .i64 t.left,.int .i64 t.dst,.slice s.1.a s.1.n s.1.c,.int .i64 t.item,.int .i64 t.rt,.int .i64 t.frm,.int .i64 t.win,.int .i64 t.wait,.bool t.lends,.int .i64 t.other,.int .i64 t.turn,.int .i64 t.time,.int .i64 t.code,.int .i64 t.who,.slice s.2.a s.2.n s.2.c,.int .i64 t.got] 190 rfl rfl (by kernel_rfl) rfl ?_ ?_);(simp [Value.oneCell'])))
       go_quiet (fail)
       go_wp2
       first
        | exact ⟨⟨k+1,by omega,by go_num,val_int (senM_first HT.out NS.out E.out).symm,below_drewN (HW.out.alloc HW.out.size _) _⟩,by simp [intOf];omega⟩
        | (
         go_roundw
         case rel=>first | exact ⟨k+1,by omega,by go_num,val_int (senM_first HT.out NS.out E.out).symm,below_drewN (HW.out.alloc HW.out.size _) _⟩ | ((repeat apply Exists.intro);exact ⟨⟨k+1,by omega,by go_num,val_int (senM_first HT.out NS.out E.out).symm,below_drewN (HW.out.alloc HW.out.size _) _⟩,rfl⟩)
         case measure=>simp [intOf];omega)
      ·rw [e] at ec
       subst ec
       obtain ⟨s2,hs2⟩:∃ s2,sl[j]? = some s2:=⟨_,List.getElem?_eq_getElem (by have:=HN.out;omega)⟩
       have u1:wr.cell? ⟨g,j*20+14,none⟩=some (.int .i64 u.turn):=(HS.out.below hw).row (i:=j) (r:=trow u s2) (trows_get hu hs2) 14 _ rfl
       have HU:=hid (And.intro e hu)
       have jm:j < m:=by omega
       have jm':(j:Int) < (m:Int):=by omega
       have dn:decide ((j:Int) < 0)=false:=by simp
       clear hw ht e hu hs2
       by_cases q5:t.turn < u.turn
       ·have d5:decide (t.turn < u.turn)=true:=by simpa using q5
        go_wp2_with (first | (with_reducible (show wpList _ _ _ (⟨_,.load 190 _,_,_,_,none⟩ :: _) _ _);go_must (refine wpList_load_mid rfl 190 _ rfl g (k*20) rfl _ _ R1.out Tryz.underlying190 rfl (by kernel_rfl) ?_)) | (with_reducible (show wpList _ _ _ (⟨_,.store 190 _ _,_,_,_,none⟩ :: _) _ _);go_must (refine wpList_store_new rfl 190 _ _ rfl wr _ #[.int .i64 t.sp,.int .i64 t.row,.int .i64 t.st,.int .i64 t.ord,.int .i64 t.left,.int .i64 t.dst,.slice s.1.a s.1.n s.1.c,.int .i64 t.item,.int .i64 t.rt,.int .i64 t.frm,.int .i64 t.win,.int .i64 t.wait,.bool t.lends,.int .i64 t.other,.int .i64 t.turn,.int .i64 t.time,.int .i64 t.code,.int .i64 t.who,.slice s.2.a s.2.n s.2.c,.int .i64 t.got] 190 rfl rfl (by kernel_rfl) rfl ?_ ?_);(simp [Value.oneCell'])))
        go_quiet (fail)
        go_wp2
        first
         | exact ⟨⟨k+1,by omega,by go_num,val_int (senM_new HT.out NS.out HU.out.1 HU.out.2 q5).symm,below_drewN (HW.out.alloc HW.out.size _) _⟩,by simp [intOf];omega⟩
         | (
          go_roundw
          case rel=>first | exact ⟨k+1,by omega,by go_num,val_int (senM_new HT.out NS.out HU.out.1 HU.out.2 q5).symm,below_drewN (HW.out.alloc HW.out.size _) _⟩ | ((repeat apply Exists.intro);exact ⟨⟨k+1,by omega,by go_num,val_int (senM_new HT.out NS.out HU.out.1 HU.out.2 q5).symm,below_drewN (HW.out.alloc HW.out.size _) _⟩,rfl⟩)
          case measure=>simp [intOf];omega)
       ·have d5:decide (t.turn < u.turn)=false:=by simpa using q5
        go_wp2_with (first | (with_reducible (show wpList _ _ _ (⟨_,.load 190 _,_,_,_,none⟩ :: _) _ _);go_must (refine wpList_load_mid rfl 190 _ rfl g (k*20) rfl _ _ R1.out Tryz.underlying190 rfl (by kernel_rfl) ?_)) | (with_reducible (show wpList _ _ _ (⟨_,.store 190 _ _,_,_,_,none⟩ :: _) _ _);go_must (refine wpList_store_new rfl 190 _ _ rfl wr _ #[.int .i64 t.sp,.int .i64 t.row,.int .i64 t.st,.int .i64 t.ord,.int .i64 t.left,.int .i64 t.dst,.slice s.1.a s.1.n s.1.c,.int .i64 t.item,.int .i64 t.rt,.int .i64 t.frm,.int .i64 t.win,.int .i64 t.wait,.bool t.lends,.int .i64 t.other,.int .i64 t.turn,.int .i64 t.time,.int .i64 t.code,.int .i64 t.who,.slice s.2.a s.2.n s.2.c,.int .i64 t.got] 190 rfl rfl (by kernel_rfl) rfl ?_ ?_);(simp [Value.oneCell'])))
        go_quiet (fail)
        go_wp2
        first
         | exact ⟨⟨k+1,by omega,by go_num,val_int (senM_old HT.out NS.out HU.out.1 HU.out.2 (by omega)).symm,below_drewN (HW.out.alloc HW.out.size _) _⟩,by simp [intOf];omega⟩
         | (
          go_roundw
          case rel=>first | exact ⟨k+1,by omega,by go_num,val_int (senM_old HT.out NS.out HU.out.1 HU.out.2 (by omega)).symm,below_drewN (HW.out.alloc HW.out.size _) _⟩ | ((repeat apply Exists.intro);exact ⟨⟨k+1,by omega,by go_num,val_int (senM_old HT.out NS.out HU.out.1 HU.out.2 (by omega)).symm,below_drewN (HW.out.alloc HW.out.size _) _⟩,rfl⟩)
          case measure=>simp [intOf];omega)
     ·have d3:(ff != -1)=true:=by simp [q3]
      by_cases q4:ff=(k:Int)
      ·have d4:(ff != (k:Int))=false:=by simp [q4]
       have NS:Hid (¬ (t.st≠2\/t.other≠(t0:Int)\/(ff≠-1/\ff≠(k:Int)))):=by unfold Hid;omega
       clear q1 q2 q3 q4
       rcases senM_inv ts t0 ff k (by have:=HN.out;omega) with e | ⟨j,u,e,hj,hu,_⟩
       ·rw [e] at ec
        subst ec
        have E:=hid e
        clear hw ht e
        go_wp2_with (first | (with_reducible (show wpList _ _ _ (⟨_,.load 190 _,_,_,_,none⟩ :: _) _ _);go_must (refine wpList_load_mid rfl 190 _ rfl g (k*20) rfl _ _ R1.out Tryz.underlying190 rfl (by kernel_rfl) ?_)) | (with_reducible (show wpList _ _ _ (⟨_,.store 190 _ _,_,_,_,none⟩ :: _) _ _);go_must (refine wpList_store_new rfl 190 _ _ rfl wr _ #[.int .i64 t.sp,.int .i64 t.row,.int .i64 t.st,.int .i64 t.ord,.int .i64 t.left,.int .i64 t.dst,.slice s.1.a s.1.n s.1.c,.int .i64 t.item,.int .i64 t.rt,.int .i64 t.frm,.int .i64 t.win,.int .i64 t.wait,.bool t.lends,.int .i64 t.other,.int .i64 t.turn,.int .i64 t.time,.int .i64 t.code,.int .i64 t.who,.slice s.2.a s.2.n s.2.c,.int .i64 t.got] 190 rfl rfl (by kernel_rfl) rfl ?_ ?_);(simp [Value.oneCell'])))
        go_quiet (fail)
        go_wp2
        first
         | exact ⟨⟨k+1,by omega,by go_num,val_int (senM_first HT.out NS.out E.out).symm,below_drewN (HW.out.alloc HW.out.size _) _⟩,by simp [intOf];omega⟩
         | (
          go_roundw
          case rel=>first | exact ⟨k+1,by omega,by go_num,val_int (senM_first HT.out NS.out E.out).symm,below_drewN (HW.out.alloc HW.out.size _) _⟩ | ((repeat apply Exists.intro);exact ⟨⟨k+1,by omega,by go_num,val_int (senM_first HT.out NS.out E.out).symm,below_drewN (HW.out.alloc HW.out.size _) _⟩,rfl⟩)
          case measure=>simp [intOf];omega)
       ·rw [e] at ec
        subst ec
        obtain ⟨s2,hs2⟩:∃ s2,sl[j]? = some s2:=⟨_,List.getElem?_eq_getElem (by have:=HN.out;omega)⟩
        have u1:wr.cell? ⟨g,j*20+14,none⟩=some (.int .i64 u.turn):=(HS.out.below hw).row (i:=j) (r:=trow u s2) (trows_get hu hs2) 14 _ rfl
        have HU:=hid (And.intro e hu)
        have jm:j < m:=by omega
        have jm':(j:Int) < (m:Int):=by omega
        have dn:decide ((j:Int) < 0)=false:=by simp
        clear hw ht e hu hs2
        by_cases q5:t.turn < u.turn
        ·have d5:decide (t.turn < u.turn)=true:=by simpa using q5
         go_wp2_with (first | (with_reducible (show wpList _ _ _ (⟨_,.load 190 _,_,_,_,none⟩ :: _) _ _);go_must (refine wpList_load_mid rfl 190 _ rfl g (k*20) rfl _ _ R1.out Tryz.underlying190 rfl (by kernel_rfl) ?_)) | (with_reducible (show wpList _ _ _ (⟨_,.store 190 _ _,_,_,_,none⟩ :: _) _ _);go_must (refine wpList_store_new rfl 190 _ _ rfl wr _ #[.int .i64 t.sp,.int .i64 t.row,.int .i64 t.st,.int .i64 t.ord,.int .i64 t.left,.int .i64 t.dst,.slice s.1.a s.1.n s.1.c,.int .i64 t.item,.int .i64 t.rt,.int .i64 t.frm,.int .i64 t.win,.int .i64 t.wait,.bool t.lends,.int .i64 t.other,.int .i64 t.turn,.int .i64 t.time,.int .i64 t.code,.int .i64 t.who,.slice s.2.a s.2.n s.2.c,.int .i64 t.got] 190 rfl rfl (by kernel_rfl) rfl ?_ ?_);(simp [Value.oneCell'])))
         go_quiet (fail)
         go_wp2
         first
          | exact ⟨⟨k+1,by omega,by go_num,val_int (senM_new HT.out NS.out HU.out.1 HU.out.2 q5).symm,below_drewN (HW.out.alloc HW.out.size _) _⟩,by simp [intOf];omega⟩
          | (
           go_roundw
           case rel=>first | exact ⟨k+1,by omega,by go_num,val_int (senM_new HT.out NS.out HU.out.1 HU.out.2 q5).symm,below_drewN (HW.out.alloc HW.out.size _) _⟩ | ((repeat apply Exists.intro);exact ⟨⟨k+1,by omega,by go_num,val_int (senM_new HT.out NS.out HU.out.1 HU.out.2 q5).symm,below_drewN (HW.out.alloc HW.out.size _) _⟩,rfl⟩)
           case measure=>simp [intOf];omega)
        ·have d5:decide (t.turn < u.turn)=false:=by simpa using q5
         go_wp2_with (first | (with_reducible (show wpList _ _ _ (⟨_,.load 190 _,_,_,_,none⟩ :: _) _ _);go_must (refine wpList_load_mid rfl 190 _ rfl g (k*20) rfl _ _ R1.out Tryz.underlying190 rfl (by kernel_rfl) ?_)) | (with_reducible (show wpList _ _ _ (⟨_,.store 190 _ _,_,_,_,none⟩ :: _) _ _);go_must (refine wpList_store_new rfl 190 _ _ rfl wr _ #[.int .i64 t.sp,.int .i64 t.row,.int .i64 t.st,.int .i64 t.ord,.int .i64 t.left,.int .i64 t.dst,.slice s.1.a s.1.n s.1.c,.int .i64 t.item,.int .i64 t.rt,.int .i64 t.frm,.int .i64 t.win,.int .i64 t.wait,.bool t.lends,.int .i64 t.other,.int .i64 t.turn,.int .i64 t.time,.int .i64 t.code,.int .i64 t.who,.slice s.2.a s.2.n s.2.c,.int .i64 t.got] 190 rfl rfl (by kernel_rfl) rfl ?_ ?_);(simp [Value.oneCell'])))
         go_quiet (fail)
         go_wp2
         first
          | exact ⟨⟨k+1,by omega,by go_num,val_int (senM_old HT.out NS.out HU.out.1 HU.out.2 (by omega)).symm,below_drewN (HW.out.alloc HW.out.size _) _⟩,by simp [intOf];omega⟩
          | (
           go_roundw
           case rel=>first | exact ⟨k+1,by omega,by go_num,val_int (senM_old HT.out NS.out HU.out.1 HU.out.2 (by omega)).symm,below_drewN (HW.out.alloc HW.out.size _) _⟩ | ((repeat apply Exists.intro);exact ⟨⟨k+1,by omega,by go_num,val_int (senM_old HT.out NS.out HU.out.1 HU.out.2 (by omega)).symm,below_drewN (HW.out.alloc HW.out.size _) _⟩,rfl⟩)
           case measure=>simp [intOf];omega)
      ·have d4:(ff != (k:Int))=true:=by simp [q4]
       have NS:Hid (t.st≠2\/t.other≠(t0:Int)\/(ff≠-1/\ff≠(k:Int))):=.inr (.inr ⟨q3,q4⟩)
       subst ec
       clear q1 q2 q3 q4 hw ht
       go_wp2_with (first | (with_reducible (show wpList _ _ _ (⟨_,.load 190 _,_,_,_,none⟩ :: _) _ _);go_must (refine wpList_load_mid rfl 190 _ rfl g (k*20) rfl _ _ R1.out Tryz.underlying190 rfl (by kernel_rfl) ?_)) | (with_reducible (show wpList _ _ _ (⟨_,.store 190 _ _,_,_,_,none⟩ :: _) _ _);go_must (refine wpList_store_new rfl 190 _ _ rfl wr _ #[.int .i64 t.sp,.int .i64 t.row,.int .i64 t.st,.int .i64 t.ord,.int .i64 t.left,.int .i64 t.dst,.slice s.1.a s.1.n s.1.c,.int .i64 t.item,.int .i64 t.rt,.int .i64 t.frm,.int .i64 t.win,.int .i64 t.wait,.bool t.lends,.int .i64 t.other,.int .i64 t.turn,.int .i64 t.time,.int .i64 t.code,.int .i64 t.who,.slice s.2.a s.2.n s.2.c,.int .i64 t.got] 190 rfl rfl (by kernel_rfl) rfl ?_ ?_);(simp [Value.oneCell'])))
       first
        | exact ⟨⟨k+1,by omega,by go_num,val_int (senM_skip HT.out NS.out).symm,HW.out.alloc HW.out.size _⟩,by simp [intOf];omega⟩
        | (
         go_roundw
         case rel=>first | exact ⟨k+1,by omega,by go_num,val_int (senM_skip HT.out NS.out).symm,HW.out.alloc HW.out.size _⟩ | ((repeat apply Exists.intro);exact ⟨⟨k+1,by omega,by go_num,val_int (senM_skip HT.out NS.out).symm,HW.out.alloc HW.out.size _⟩,rfl⟩)
         case measure=>simp [intOf];omega)
    ·have d2:(t.other != (t0:Int))=true:=by simp [q2]
     have NS:Hid (t.st≠2\/t.other≠(t0:Int)\/(ff≠-1/\ff≠(k:Int))):=.inr (.inl q2)
     subst ec
     clear q1 q2 hw ht
     go_wp2_with (first | (with_reducible (show wpList _ _ _ (⟨_,.load 190 _,_,_,_,none⟩ :: _) _ _);go_must (refine wpList_load_mid rfl 190 _ rfl g (k*20) rfl _ _ R1.out Tryz.underlying190 rfl (by kernel_rfl) ?_)) | (with_reducible (show wpList _ _ _ (⟨_,.store 190 _ _,_,_,_,none⟩ :: _) _ _);go_must (refine wpList_store_new rfl 190 _ _ rfl wr _ #[.int .i64 t.sp,.int .i64 t.row,.int .i64 t.st,.int .i64 t.ord,.int .i64 t.left,.int .i64 t.dst,.slice s.1.a s.1.n s.1.c,.int .i64 t.item,.int .i64 t.rt,.int .i64 t.frm,.int .i64 t.win,.int .i64 t.wait,.bool t.lends,.int .i64 t.other,.int .i64 t.turn,.int .i64 t.time,.int .i64 t.code,.int .i64 t.who,.slice s.2.a s.2.n s.2.c,.int .i64 t.got] 190 rfl rfl (by kernel_rfl) rfl ?_ ?_);(simp [Value.oneCell'])))
     first
      | exact ⟨⟨k+1,by omega,by go_num,val_int (senM_skip HT.out NS.out).symm,HW.out.alloc HW.out.size _⟩,by simp [intOf];omega⟩
      | (
       go_roundw
       case rel=>first | exact ⟨k+1,by omega,by go_num,val_int (senM_skip HT.out NS.out).symm,HW.out.alloc HW.out.size _⟩ | ((repeat apply Exists.intro);exact ⟨⟨k+1,by omega,by go_num,val_int (senM_skip HT.out NS.out).symm,HW.out.alloc HW.out.size _⟩,rfl⟩)
       case measure=>simp [intOf];omega)
   ·have d1:(t.st != 2)=true:=by simp [q1]
    have NS:Hid (t.st≠2\/t.other≠(t0:Int)\/(ff≠-1/\ff≠(k:Int))):=.inl q1
    subst ec
    clear q1 hw ht
    go_wp2_with (first | (with_reducible (show wpList _ _ _ (⟨_,.load 190 _,_,_,_,none⟩ :: _) _ _);go_must (refine wpList_load_mid rfl 190 _ rfl g (k*20) rfl _ _ R1.out Tryz.underlying190 rfl (by kernel_rfl) ?_)) | (with_reducible (show wpList _ _ _ (⟨_,.store 190 _ _,_,_,_,none⟩ :: _) _ _);go_must (refine wpList_store_new rfl 190 _ _ rfl wr _ #[.int .i64 t.sp,.int .i64 t.row,.int .i64 t.st,.int .i64 t.ord,.int .i64 t.left,.int .i64 t.dst,.slice s.1.a s.1.n s.1.c,.int .i64 t.item,.int .i64 t.rt,.int .i64 t.frm,.int .i64 t.win,.int .i64 t.wait,.bool t.lends,.int .i64 t.other,.int .i64 t.turn,.int .i64 t.time,.int .i64 t.code,.int .i64 t.who,.slice s.2.a s.2.n s.2.c,.int .i64 t.got] 190 rfl rfl (by kernel_rfl) rfl ?_ ?_);(simp [Value.oneCell'])))
    first
     | exact ⟨⟨k+1,by omega,by go_num,val_int (senM_skip HT.out NS.out).symm,HW.out.alloc HW.out.size _⟩,by simp [intOf];omega⟩
     | (
      go_roundw
      case rel=>first | exact ⟨k+1,by omega,by go_num,val_int (senM_skip HT.out NS.out).symm,HW.out.alloc HW.out.size _⟩ | ((repeat apply Exists.intro);exact ⟨⟨k+1,by omega,by go_num,val_int (senM_skip HT.out NS.out).symm,HW.out.alloc HW.out.size _⟩,rfl⟩)
      case measure=>simp [intOf];omega)
  ·subst ec
   have ek:k=m:=by omega
   subst ek
   go_wp2
   go_ret
   exact ⟨rfl,HW.out⟩
open Go.RowKit
def RM.upd (K:RM) (t:Nat) (f:Th->Th):RM:={ K with threads:=K.threads.modify t f }
def RM.toFirst (K:RM) (t:Nat):RM:={ K.upd t (fun u=>{ u with ord:=K.first }) with first:=K.first-1 }
def RM.toLast (K:RM) (t:Nat):RM:={ K.upd t (fun u=>{ u with ord:=K.last }) with last:=K.last+1 }
def RM.over (K:RM) (t:Nat) (e:Int):RM:=K.upd t (fun u=>{ u with st:=1,time:=-1,code:=e,who:=-1,ws:=[],got:=-1 })
def tim (c w:Int):Int:=if 0 < w then wrap64 (c+w) else -1
def RM.waits (K:RM) (t:Nat) (st other:Int):RM:={ K.upd t (fun u=>{ u with st:=st,other:=other,turn:=K.last,time:=tim K.clock u.wait }) with last:=K.last+1 }
theorem get_modify {α:Type}{l:List α}{t:Nat}{u:α}(f:α->α) (h:l[t]? = some u):(l.modify t f)[t]? = some (f u):=by
 rw [List.getElem?_modify,h];simp
theorem modify_at {α:Type}{l:List α}{t:Nat}{u:α}{f h:α->α}(hu:l[t]? = some u) (e:f u=h u):l.modify t f=l.modify t h:=by
 apply List.ext_getElem?
 intro i
 rw [List.getElem?_modify,List.getElem?_modify]
 by_cases q:t=i
 ·subst q;rw [hu];simp [e]
 ·simp [q]
theorem modify_two {α:Type}{l:List α}{t:Nat}{u:α}{f g h:α->α}(hu:l[t]? = some u) (e:g (f u)=h u):(l.modify t f).modify t g=l.modify t h:=by
 apply List.ext_getElem?
 intro i
 rw [List.getElem?_modify,List.getElem?_modify,List.getElem?_modify]
 by_cases q:t=i
 ·subst q;rw [hu];simp [e]
 ·simp [q]
section
variable {w w':World}{y:Nat}{K:RM}{g n c:Nat}{vp vl:Value}{sl:List (Sv×Sv)}
theorem RmAt.updTh (h:RmAt w y K (.slice (some ⟨g,0,none⟩) n c) vp vl sl){t:Nat}{u:Th}{s:Sv×Sv}(f:Th->Th) (s':Sv×Sv) (ht:K.threads[t]? = some u) (hs:sl[t]? = some s)
  (hS:Sl w' 190 20 (.slice (some ⟨g,0,none⟩) n c) ((trows K.threads sl).set t (trow (f u) s'))) (F:Fr (fun q=>q=g) w w') (h1:Wd w' y (.slice (some ⟨g,0,none⟩) n c) vp vl s'.1 (f u).mw) (h2:Wd w' y (.slice (some ⟨g,0,none⟩) n c) vp vl s'.2 (f u).ws) :
  RmAt w' y (K.upd t f) (.slice (some ⟨g,0,none⟩) n c) vp vl (sl.set t s'):=by
 rw [trows_set f s' ht hs] at hS
 have F2:Fr (Wr y (.slice (some ⟨g,0,none⟩) n c) vp vl) w w':=F.mono (fun q _ e=>.inr (.inl (by rw [e];rfl)))
 refine ⟨(F.block y h.ly (fun e=>h.n1 (by rw [e];rfl))).trans h.blk,by simpa [RM.upd] using h.ln,hS,h.pa.kept F (fun q hq e=>(h.n4 g rfl).1 (by rw [<- e];exact hq)),h.le.kept F (fun q hq e=>(h.n4 g rfl).2 (by rw [<- e];exact hq)),fun i t' s2 ht' hs'=>?_,h.n1,h.n2,h.n3,h.n4,h.n5⟩
 have ht2:(K.threads.modify t f)[i]? = some t':=ht'
 rw [List.getElem?_modify] at ht2
 rw [List.getElem?_set] at hs'
 by_cases e:t=i
 ·subst e
  have hlt:=(List.getElem?_eq_some_iff.1 hs).1
  rw [ht] at ht2
  simp [hlt] at ht2 hs'
  rw [<- ht2,<- hs']
  exact ⟨h1,h2⟩
 ·rw [if_neg e] at hs'
  rcases hz:K.threads[i]? with _ | z
  ·rw [hz] at ht2;simp at ht2
  ·rw [hz] at ht2
   simp [e] at ht2
   rw [<- ht2]
   exact h.words F2 (fun _ _ h=>h) i z s2 hz hs'
theorem RmAt.hrow (h:RmAt w y K (.slice (some ⟨g,0,none⟩) n c) vp vl sl){t:Nat}{u:Th}{s:Sv×Sv}(ht:K.threads[t]? = some u) (hs:sl[t]? = some s):∃ hl:t < (trows K.threads sl).length,(trows K.threads sl)[t]=trow u s:=by
 have hl:t < (trows K.threads sl).length:=by rw [trows_len h.ln];exact (List.getElem?_eq_some_iff.1 ht).1
 refine ⟨hl,?_⟩
 have:=trows_get ht hs
 rw [List.getElem?_eq_getElem hl] at this
 simpa using this
theorem RmAt.wdG (h:RmAt w y K (.slice (some ⟨g,0,none⟩) n c) vp vl sl){t:Nat}{u:Th}{s:Sv×Sv}(ht:K.threads[t]? = some u) (hs:sl[t]? = some s) (F:Fr (fun q=>q=g) w w'):Wd w' y (.slice (some ⟨g,0,none⟩) n c) vp vl s.1 u.mw/\Wd w' y (.slice (some ⟨g,0,none⟩) n c) vp vl s.2 u.ws:=
 h.words (F.mono (fun q _ e=>.inr (.inl (by rw [e];rfl)))) (fun _ _ h=>h) t u s ht hs
end
theorem RmAt.open {w:World}{y:Nat}{K:RM}{vt vp vl:Value}{sl:List (Sv×Sv)}(h:RmAt w y K vt vp vl sl) (hp:0 < K.threads.length):∃ g c,vt=.slice (some ⟨g,0,none⟩) K.threads.length c/\g≠y/\g < w.heap.size:=by
 obtain ⟨a,c,ev⟩:=h.th.slice
 rw [trows_len h.ln] at ev
 subst ev
 obtain ⟨g,ea,_⟩:=h.th.is_some hp
 subst ea
 exact ⟨g,c,rfl,fun e=>h.n1 (by rw [e];rfl),h.th.lt rfl⟩
theorem rmToLast_any (y:Nat) (K:RM) (vt vp vl:Value) (sl:List (Sv×Sv)) (t:Nat) (w:World) (h:RmAt w y K vt vp vl sl) (ht:t < K.threads.length) (hb:K.threads.length<=6) (l0:-4611686018427387904<=K.last) (l1:K.last<=4611686018427387904) :
  Calls Tryz.prog 96 #[.pointer (some ⟨y,0,none⟩),.int .i64 t] w fun e w'=>e=.returned (.tuple #[])/\RmAt w' y (K.toLast t) vt vp vl sl/\Fr (Wr y vt vp vl) w w':=by
 obtain ⟨u,hu⟩:∃ u,K.threads[t]? = some u:=⟨_,List.getElem?_eq_getElem ht⟩
 obtain ⟨s,hs⟩:=h.sl_get hu
 obtain ⟨g,c,rfl,hgy,lg⟩:=h.open (by omega)
 obtain ⟨m,hn'⟩:∃ m,K.threads.length=m:=⟨_,rfl⟩
 rw [hn'] at h hb ht ⊢
 have c0:w.cell? ⟨y,0,none⟩=some (.slice (some ⟨g,0,none⟩) m c):=(h.cell 0).trans rfl
 have c7:w.cell? ⟨y,38,none⟩=some (.int .i64 K.last):=(h.cell 38).trans rfl
 have f7:=h.fro
 have fg:∀ j,w.frozen? ⟨g,j,none⟩=false:=fun j=>h.th.fro j
 have cg:w.cell? ⟨g,t*20+3,none⟩=some (.int .i64 u.ord):=h.trange hu hs 3 _ rfl
 have hne:y≠g:=fun e=>hgy e.symm
 have tm:(t:Int) < (m:Int):=by omega
 have HH:=hid (And.intro h (And.intro hu hs))
 clear h hu hn' hs
 go_enter Tryz.func96,Tryz.ntmps96
 go_wp2
 go_region
 all_goals
  go_wp2
  go_end0
  obtain ⟨h,hu,hs⟩:=HH.out
  refine ⟨rfl,?_,?_⟩
  ·have h1:=h.setTh (t:=t) (j:=3) (fun u=>{ u with ord:=K.last }) (.int .i64 K.last) hu hs (by decide) rfl rfl rfl
   exact (h1.setY (K':=K.toLast t) (j:=38) (x:=.int .i64 (K.last+1)) rfl rfl rfl rfl).drew
  ·exact ((((Fr.refl _ w).setCell (p:=⟨g,t*20+3,none⟩) (fun _=>.inr (.inl rfl)) _).setCell (p:=⟨y,38,none⟩) (fun _=>.inl rfl) _).drew)
theorem rmToFirst_any (y:Nat) (K:RM) (vt vp vl:Value) (sl:List (Sv×Sv)) (t:Nat) (w:World) (h:RmAt w y K vt vp vl sl) (ht:t < K.threads.length) (hb:K.threads.length<=6) (l0:-4611686018427387904<=K.first) (l1:K.first<=4611686018427387904) :
  Calls Tryz.prog 102 #[.pointer (some ⟨y,0,none⟩),.int .i64 t] w fun e w'=>e=.returned (.tuple #[])/\RmAt w' y (K.toFirst t) vt vp vl sl/\Fr (Wr y vt vp vl) w w':=by
 obtain ⟨u,hu⟩:∃ u,K.threads[t]? = some u:=⟨_,List.getElem?_eq_getElem ht⟩
 obtain ⟨s,hs⟩:=h.sl_get hu
 obtain ⟨g,c,rfl,hgy,lg⟩:=h.open (by omega)
 obtain ⟨m,hn'⟩:∃ m,K.threads.length=m:=⟨_,rfl⟩
 rw [hn'] at h hb ht ⊢
 have c0:w.cell? ⟨y,0,none⟩=some (.slice (some ⟨g,0,none⟩) m c):=(h.cell 0).trans rfl
 have c7:w.cell? ⟨y,37,none⟩=some (.int .i64 K.first):=(h.cell 37).trans rfl
 have f7:=h.fro
 have fg:∀ j,w.frozen? ⟨g,j,none⟩=false:=fun j=>h.th.fro j
 have cg:w.cell? ⟨g,t*20+3,none⟩=some (.int .i64 u.ord):=h.trange hu hs 3 _ rfl
 have hne:y≠g:=fun e=>hgy e.symm
 have tm:(t:Int) < (m:Int):=by omega
 have HH:=hid (And.intro h (And.intro hu hs))
 clear h hu hn' hs
 go_enter Tryz.func102,Tryz.ntmps102
 go_wp2
 go_region
 all_goals
  go_wp2
  go_end0
  obtain ⟨h,hu,hs⟩:=HH.out
  refine ⟨rfl,?_,?_⟩
  ·have h1:=h.setTh (t:=t) (j:=3) (fun u=>{ u with ord:=K.first }) (.int .i64 K.first) hu hs (by decide) rfl rfl rfl
   exact (h1.setY (K':=K.toFirst t) (j:=37) (x:=.int .i64 (K.first-1)) rfl rfl rfl rfl).drew
  ·exact ((((Fr.refl _ w).setCell (p:=⟨g,t*20+3,none⟩) (fun _=>.inr (.inl rfl)) _).setCell (p:=⟨y,37,none⟩) (fun _=>.inl rfl) _).drew)
theorem rmOver_any (y:Nat) (K:RM) (vt vp vl:Value) (sl:List (Sv×Sv)) (t:Nat) (s:Sv×Sv) (cd:Int) (w:World) (h:RmAt w y K vt vp vl sl) (ht:t < K.threads.length) (hb:K.threads.length<=6) (hs:sl[t]? = some s) :
  Calls Tryz.prog 97 #[.pointer (some ⟨y,0,none⟩),.int .i64 t,.int .i64 cd] w fun e w'=>e=.returned (.tuple #[])/\RmAt w' y (K.over t cd) vt vp vl (sl.set t (s.1,Sv.nil))/\Fr (fun q=>vt.ownBlock=some q) w w':=by
 obtain ⟨u,hu⟩:∃ u,K.threads[t]? = some u:=⟨_,List.getElem?_eq_getElem ht⟩
 obtain ⟨g,c,rfl,hgy,lg⟩:=h.open (by omega)
 obtain ⟨m,hn'⟩:∃ m,K.threads.length=m:=⟨_,rfl⟩
 rw [hn'] at h hb ht ⊢
 have c0:w.cell? ⟨y,0,none⟩=some (.slice (some ⟨g,0,none⟩) m c):=(h.cell 0).trans rfl
 have fg:∀ j,w.frozen? ⟨g,j,none⟩=false:=fun j=>h.th.fro j
 have R:=h.trange hu hs
 have g2:w.cell? ⟨g,t*20+2,none⟩=some (.int .i64 u.st):=R 2 _ rfl
 have g15:w.cell? ⟨g,t*20+15,none⟩=some (.int .i64 u.time):=R 15 _ rfl
 have g16:w.cell? ⟨g,t*20+16,none⟩=some (.int .i64 u.code):=R 16 _ rfl
 have g17:w.cell? ⟨g,t*20+17,none⟩=some (.int .i64 u.who):=R 17 _ rfl
 have g18:w.cell? ⟨g,t*20+18,none⟩=some (.slice s.2.a s.2.n s.2.c):=R 18 _ rfl
 have g19:w.cell? ⟨g,t*20+19,none⟩=some (.int .i64 u.got):=R 19 _ rfl
 have tm:(t:Int) < (m:Int):=by omega
 have HH:=hid (And.intro h (And.intro hu hs))
 clear h hu hn' hs R
 go_enter Tryz.func97,Tryz.ntmps97
 go_wp2
 go_end0
 obtain ⟨h,hu,hs⟩:=HH.out
 obtain ⟨hl,hr⟩:=h.hrow hu hs
 have S:=(((((h.th.set t 2 (.int .i64 1) hl (by omega)).set t 15 (.int .i64 (-1)) (by simpa using hl) (by omega)).set t 16 (.int .i64 cd) (by simpa using hl) (by omega)).set t 17 (.int .i64 (-1)) (by simpa using hl) (by omega)).set t 18 (.slice none 0 0) (by simpa using hl) (by omega)).set t 19 (.int .i64 (-1)) (by simpa using hl) (by omega)
 simp only [List.getElem_set_self,List.set_set,hr] at S
 have F:Fr (fun q=>q=g) w ((((((w.setCell ⟨g,t*20+2,none⟩ (.int .i64 1)).setCell ⟨g,t*20+15,none⟩ (.int .i64 (-1))).setCell ⟨g,t*20+16,none⟩ (.int .i64 cd)).setCell ⟨g,t*20+17,none⟩ (.int .i64 (-1))).setCell ⟨g,t*20+18,none⟩ (.slice none 0 0)).setCell ⟨g,t*20+19,none⟩ (.int .i64 (-1))):=
  ((((((Fr.refl (fun q=>q=g) w).setCell (p:=⟨g,t*20+2,none⟩) (fun _=>rfl) _).setCell (p:=⟨g,t*20+15,none⟩) (fun _=>rfl) _).setCell (p:=⟨g,t*20+16,none⟩) (fun _=>rfl) _).setCell (p:=⟨g,t*20+17,none⟩) (fun _=>rfl) _).setCell (p:=⟨g,t*20+18,none⟩) (fun _=>rfl) _).setCell (p:=⟨g,t*20+19,none⟩) (fun _=>rfl) _
 exact ⟨rfl,h.updTh (fun u=>{ u with st:=1,time:=-1,code:=cd,who:=-1,ws:=[],got:=-1 }) (s.1,Sv.nil) hu hs S F (h.wdG hu hs F).1 (Wd.nil _ _ _ _ _),F.mono (fun q _ e=>by rw [e];rfl)⟩
theorem rmWaits_any (y:Nat) (K:RM) (vt vp vl:Value) (sl:List (Sv×Sv)) (t:Nat) (st other:Int) (w:World) (h:RmAt w y K vt vp vl sl) (ht:t < K.threads.length) (hb:K.threads.length<=6) (l0:-4611686018427387904<=K.last) (l1:K.last<=4611686018427387904) :
  Calls Tryz.prog 104 #[.pointer (some ⟨y,0,none⟩),.int .i64 t,.int .i64 st,.int .i64 other] w fun e w'=>e=.returned (.tuple #[])/\RmAt w' y (K.waits t st other) vt vp vl sl/\Fr (Wr y vt vp vl) w w':=by
 obtain ⟨u,hu⟩:∃ u,K.threads[t]? = some u:=⟨_,List.getElem?_eq_getElem ht⟩
 obtain ⟨s,hs⟩:=h.sl_get hu
 obtain ⟨g,c,rfl,hgy,lg⟩:=h.open (by omega)
 obtain ⟨m,hn'⟩:∃ m,K.threads.length=m:=⟨_,rfl⟩
 rw [hn'] at h hb ht ⊢
 have c0:w.cell? ⟨y,0,none⟩=some (.slice (some ⟨g,0,none⟩) m c):=(h.cell 0).trans rfl
 have c5:w.cell? ⟨y,36,none⟩=some (.int .i64 K.clock):=(h.cell 36).trans rfl
 have c7:w.cell? ⟨y,38,none⟩=some (.int .i64 K.last):=(h.cell 38).trans rfl
 have f7:=h.fro
 have fg:∀ j,w.frozen? ⟨g,j,none⟩=false:=fun j=>h.th.fro j
 have hne:y≠g:=fun e=>hgy e.symm
 have R:=h.trange hu hs
 have g2:w.cell? ⟨g,t*20+2,none⟩=some (.int .i64 u.st):=R 2 _ rfl
 have g11:w.cell? ⟨g,t*20+11,none⟩=some (.int .i64 u.wait):=R 11 _ rfl
 have g13:w.cell? ⟨g,t*20+13,none⟩=some (.int .i64 u.other):=R 13 _ rfl
 have g14:w.cell? ⟨g,t*20+14,none⟩=some (.int .i64 u.turn):=R 14 _ rfl
 have g15:w.cell? ⟨g,t*20+15,none⟩=some (.int .i64 u.time):=R 15 _ rfl
 have tm:(t:Int) < (m:Int):=by omega
 obtain ⟨hl,hr⟩:=h.hrow hu hs
 have S1:=((h.th.set t 2 (.int .i64 st) hl (by omega)).set t 13 (.int .i64 other) (by simpa using hl) (by omega)).set t 14 (.int .i64 K.last) (by simpa using hl) (by omega)
 simp only [List.getElem_set_self,List.set_set,hr] at S1
 have F1:Fr (fun q=>q=g) w (((w.setCell ⟨g,t*20+2,none⟩ (.int .i64 st)).setCell ⟨g,t*20+13,none⟩ (.int .i64 other)).setCell ⟨g,t*20+14,none⟩ (.int .i64 K.last)):=
  (((Fr.refl (fun q=>q=g) w).setCell (p:=⟨g,t*20+2,none⟩) (fun _=>rfl) _).setCell (p:=⟨g,t*20+13,none⟩) (fun _=>rfl) _).setCell (p:=⟨g,t*20+14,none⟩) (fun _=>rfl) _
 have h1:=h.updTh (fun u=>{ u with st:=st,other:=other,turn:=K.last }) s hu hs S1 F1 (h.wdG hu hs F1).1 (h.wdG hu hs F1).2
 rw [set_self hs] at h1
 have h2:=h1.setY (K':={ K.upd t (fun u=>{ u with st:=st,other:=other,turn:=K.last }) with last:=K.last+1 }) (j:=38) (x:=.int .i64 (K.last+1)) rfl rfl rfl rfl
 have hu1:({ K.upd t (fun u=>{ u with st:=st,other:=other,turn:=K.last }) with last:=K.last+1 }:RM).threads[t]? = some { u with st:=st,other:=other,turn:=K.last }:=get_modify _ hu
 have h3:=h2.setTh (t:=t) (j:=15) (fun u=>{ u with time:=-1 }) (.int .i64 (-1)) hu1 hs (by omega) rfl rfl rfl
 have F2:=F1.mono (T:=Wr y (.slice (some ⟨g,0,none⟩) m c) vp vl) (fun q _ e=>.inr (.inl (by rw [e];rfl)))
 have F3:=(F2.setCell (p:=⟨y,38,none⟩) (fun _=>.inl rfl) (.int .i64 (K.last+1))).setCell (p:=⟨g,t*20+15,none⟩) (fun _=>.inr (.inl rfl)) (.int .i64 (-1))
 have H3:=hid (And.intro h3 (And.intro F3 (And.intro hs hu)))
 clear h hu hn' hs R h1 h2 h3 F1 F2 F3 S1 hu1 hl hr
 by_cases z:0 < u.wait
 ·have d:decide (0 < u.wait)=true:=by simpa using z
  go_enter Tryz.func104,Tryz.ntmps104
  go_wp2
  go_region
  all_goals
   go_wp2
   go_end0
   obtain ⟨h3,F3,hs,hu⟩:=H3.out
   have hu2:({ K.upd t (fun u=>{ u with st:=st,other:=other,turn:=K.last }) with last:=K.last+1,threads:=(K.threads.modify t (fun u=>{ u with st:=st,other:=other,turn:=K.last })).modify t (fun u=>{ u with time:=-1 }) }:RM).threads[t]? = some { u with st:=st,other:=other,turn:=K.last,time:=-1 }:=get_modify _ (get_modify _ hu)
   have hT:wrap64 (K.clock+u.wait)=tim K.clock u.wait:=by unfold tim;rw [if_pos z]
   rw [hT]
   generalize hq:tim K.clock u.wait=T
   have h4:=h3.setTh (t:=t) (j:=15) (fun u=>{ u with time:=T }) (.int .i64 T) hu2 hs (by omega) rfl rfl rfl
   have h5:RmAt _ y { K with threads:=((K.threads.modify t (fun u=>{ u with st:=st,other:=other,turn:=K.last })).modify t (fun u=>{ u with time:=-1 })).modify t (fun u=>{ u with time:=T }),last:=K.last+1 } _ vp vl sl:=h4
   rw [modify_two (h:=fun u=>{ u with st:=st,other:=other,turn:=K.last,time:=-1 }) hu rfl,modify_two (h:=fun u=>{ u with st:=st,other:=other,turn:=K.last,time:=tim K.clock u.wait }) hu (by rw [hq])] at h5
   exact ⟨rfl,h5.drew,(F3.setCell (p:=⟨g,t*20+15,none⟩) (fun _=>.inr (.inl rfl)) _).drew⟩
 ·have d:decide (0 < u.wait)=false:=by simpa using z
  go_enter Tryz.func104,Tryz.ntmps104
  go_wp2
  go_end0
  obtain ⟨h3,F3,hs,hu⟩:=H3.out
  have h5:RmAt _ y { K with threads:=(K.threads.modify t (fun u=>{ u with st:=st,other:=other,turn:=K.last })).modify t (fun u=>{ u with time:=-1 }),last:=K.last+1 } _ vp vl sl:=h3
  rw [modify_two (h:=fun u=>{ u with st:=st,other:=other,turn:=K.last,time:=tim K.clock u.wait }) hu (by unfold tim;rw [if_neg (by omega)])] at h5
  exact ⟨rfl,h5,F3⟩
open Go.RowKit
inductive Und (L:List Lf) (s n:Int):Lf->Prop
 | base (l:Lf):l.usp=s->l.upg=n->Und L s n l
 | step (l p:Lf):p∈L->p.sp=l.usp->p.pg=l.upg->Und L s n p->Und L s n l
def ApL (L:List Lf):Prop:=L.Pairwise (fun a b=>¬ (a.sp=b.sp/\a.pg=b.pg))
def Kin (r:Int->Int->Nat) (L:List Lf):Prop:=∀ l∈L,0<=l.sp/\((l.usp=-1/\l.upg=-1)\/∃ p∈L,p.sp=l.usp/\p.pg=l.upg/\r p.sp p.pg < r l.sp l.pg)
noncomputable def stays (L:List Lf) (s n:Int) (own:Bool) (l:Lf):Bool:=@decide (¬ Und L s n l/\¬ (own=true/\l.sp=s/\l.pg=n)) (Classical.propDecidable _)
theorem stays_iff {L:List Lf}{s n:Int}{own:Bool}{l:Lf}:stays L s n own l=true↔¬ Und L s n l/\¬ (own=true/\l.sp=s/\l.pg=n):=@decide_eq_true_iff _ (Classical.propDecidable _)
noncomputable def goneL (L:List Lf) (s n:Int) (own:Bool):List Lf:=L.filter (stays L s n own)
theorem ApL.eq {L:List Lf}(h:ApL L){a b:Lf}(ha:a∈L) (hb:b∈L) (h1:a.sp=b.sp) (h2:a.pg=b.pg):a=b:=by
 induction L with
 | nil=>simp at ha
 | cons x L ih=>
  rw [ApL,List.pairwise_cons] at h
  rcases List.mem_cons.1 ha with rfl | ha
  ·rcases List.mem_cons.1 hb with rfl | hb
   ·rfl
   ·exact absurd ⟨h1,h2⟩ (h.1 b hb)
  ·rcases List.mem_cons.1 hb with e | hb
   ·exact absurd ⟨by rw [<- e,h1],by rw [<- e,h2]⟩ (h.1 a ha)
   ·exact ih h.2 ha hb
theorem mem_gone {L:List Lf}{s n:Int}{own:Bool}{l:Lf}:l∈goneL L s n own↔l∈L/\¬ Und L s n l/\¬ (own=true/\l.sp=s/\l.pg=n):=by
 unfold goneL
 rw [List.mem_filter,stays_iff]
theorem gone_apl {L:List Lf}(h:ApL L) (s n:Int) (own:Bool):ApL (goneL L s n own):=List.Pairwise.filter _ h
theorem gone_len (L:List Lf) (s n:Int) (own:Bool):(goneL L s n own).length<=L.length:=List.length_filter_le _ _
theorem Und.sub {L L':List Lf}{s n:Int}(hs:∀ l∈L',l∈L){l:Lf}(h:Und L' s n l):Und L s n l:=by
 induction h with
 | base l h1 h2=>exact .base l h1 h2
 | step l p hp h1 h2 _ ih=>exact .step l p (hs p hp) h1 h2 ih
theorem Und.trans {L:List Lf}{s n:Int}{c l:Lf}(hc:c∈L) (h:Und L s n c) (hl:Und L c.sp c.pg l):Und L s n l:=by
 induction hl with
 | base l h1 h2=>exact .step l c hc h1.symm h2.symm h
 | step l p hp h1 h2 _ ih=>exact .step l p hp h1 h2 ih
theorem gone_kin {r:Int->Int->Nat}{L:List Lf}(h:Kin r L) (s n:Int) (own:Bool):Kin r (goneL L s n own):=by
 intro l hl
 obtain ⟨h1,h2,h3⟩:=mem_gone.1 hl
 refine ⟨(h l h1).1,?_⟩
 rcases (h l h1).2 with e | ⟨p,hp,e1,e2,e3⟩
 ·exact .inl e
 ·refine .inr ⟨p,mem_gone.2 ⟨hp,fun hu=>h2 (.step l p hp e1 e2 hu),fun ⟨_,g1,g2⟩=>h2 (.base l ?_ ?_)⟩,e1,e2,e3⟩
  ·rw [<- e1,g1]
  ·rw [<- e2,g2]
theorem gone_step {L:List Lf}(ha:ApL L){s n:Int}{c:Lf}(hc:c∈L) (h1:c.usp=s) (h2:c.upg=n) (own:Bool):goneL (goneL L c.sp c.pg true) s n own=goneL L s n own:=by
 have hsub:∀ l∈goneL L c.sp c.pg true,l∈L:=fun l hl=>(mem_gone.1 hl).1
 have hcu:Und L s n c:=.base c h1 h2
 have key:∀ l,Und L s n l->l∈goneL L c.sp c.pg true->Und (goneL L c.sp c.pg true) s n l:=by
  intro l hl
  induction hl with
  | base l g1 g2=>exact fun _=>.base l g1 g2
  | step l p hp g1 g2 _ ih=>
   intro hm
   obtain ⟨_,m2,_⟩:=mem_gone.1 hm
   have hpm:p∈goneL L c.sp c.pg true:=by
    refine mem_gone.2 ⟨hp,fun hu=>m2 (.step l p hp g1 g2 hu),fun ⟨_,k1,k2⟩=>m2 (.base l ?_ ?_)⟩
    ·rw [<- g1,k1]
    ·rw [<- g2,k2]
   exact .step l p hpm g1 g2 (ih hpm)
 have e:∀ l∈L,(¬ Und (goneL L c.sp c.pg true) s n l/\¬ (own=true/\l.sp=s/\l.pg=n))/\(¬ Und L c.sp c.pg l/\¬ (true=true/\l.sp=c.sp/\l.pg=c.pg))↔¬ Und L s n l/\¬ (own=true/\l.sp=s/\l.pg=n):=by
  intro l hl
  constructor
  ·rintro ⟨⟨a1,a2⟩,a3,a4⟩
   exact ⟨fun hu=>a1 (key l hu (mem_gone.2 ⟨hl,a3,a4⟩)),a2⟩
  ·rintro ⟨a1,a2⟩
   refine ⟨⟨fun hu=>a1 (hu.sub hsub),a2⟩,fun hu=>a1 (hcu.trans hc hu),fun ⟨_,k1,k2⟩=>a1 ?_⟩
   rw [ha.eq hl hc k1 k2];exact hcu
 have hr:goneL (goneL L c.sp c.pg true) s n own=(L.filter (stays L c.sp c.pg true)).filter (stays (goneL L c.sp c.pg true) s n own):=rfl
 rw [hr,List.filter_filter]
 apply List.filter_congr
 intro l hl
 rw [Bool.eq_iff_iff,Bool.and_eq_true,stays_iff,stays_iff,stays_iff]
 exact e l hl
theorem gone_lt {L:List Lf}{c:Lf}(hc:c∈L):(goneL L c.sp c.pg true).length < L.length:=by
 unfold goneL
 rw [List.length_filter_lt_length_iff_exists]
 exact ⟨c,hc,fun h=>(stays_iff.1 h).2 ⟨rfl,rfl,rfl⟩⟩
theorem kin_child {r:Int->Int->Nat}{L:List Lf}(h:Kin r L){c:Lf}(hc:c∈L){s n:Int}(hs:0<=s) (h1:c.usp=s) (h2:c.upg=n):r s n < r c.sp c.pg:=by
 rcases (h c hc).2 with e | ⟨p,_,e1,e2,e3⟩
 ·omega
 ·rw [<- h1,<- h2,<- e1,<- e2];exact e3
theorem Und.child {L:List Lf}{s n:Int}{l:Lf}(hl:l∈L) (h:Und L s n l):∃ c∈L,c.usp=s/\c.upg=n:=by
 induction h with
 | base l h1 h2=>exact ⟨l,hl,h1,h2⟩
 | step l p hp _ _ _ ih=>exact ih hp
theorem gone_none {L:List Lf}{s n:Int}(h:∀ c∈L,¬ (c.usp=s/\c.upg=n)) (own:Bool):goneL L s n own=if own=true then L.filter (fun l=>!(l.sp == s && l.pg == n)) else L:=by
 have hno:∀ l∈L,¬ Und L s n l:=fun l hl hu=>by
  obtain ⟨c,hc,h1,h2⟩:=hu.child hl
  exact h c hc ⟨h1,h2⟩
 unfold goneL
 cases own with
 | true=>
  rw [if_pos rfl]
  apply List.filter_congr
  intro l hl
  rw [Bool.eq_iff_iff,stays_iff]
  have:=hno l hl
  simp [this]
  omega
 | false=>
  rw [if_neg (by simp)]
  rw [List.filter_eq_self]
  intro l hl
  rw [stays_iff]
  exact ⟨hno l hl,by simp⟩
def younger (r:Int->Int->Nat) (L:List Lf) (k:Nat):Nat:=(L.filter (fun l=>decide (k < r l.sp l.pg))).length
theorem younger_lt {r:Int->Int->Nat}{L:List Lf}{c:Lf}(hc:c∈L){k:Nat}(hk:k < r c.sp c.pg):younger r L (r c.sp c.pg) < younger r L k:=by
 unfold younger
 induction L with
 | nil=>simp at hc
 | cons x L ih=>
  have mono:∀ L:List Lf,(L.filter (fun l=>decide (r c.sp c.pg < r l.sp l.pg))).length<=(L.filter (fun l=>decide (k < r l.sp l.pg))).length:=by
   intro L
   induction L with
   | nil=>simp
   | cons z L ihz=>
    rw [List.filter_cons,List.filter_cons]
    by_cases h1:r c.sp c.pg < r z.sp z.pg
    ·have h2:k < r z.sp z.pg:=by omega
     simp [h1,h2];exact ihz
    ·by_cases h2:k < r z.sp z.pg
     ·simp [h1,h2];omega
     ·simp [h1,h2];exact ihz
  rw [List.filter_cons,List.filter_cons]
  rcases List.mem_cons.1 hc with rfl | hc
  ·have h1:¬ r c.sp c.pg < r c.sp c.pg:=by omega
   simp [hk]
   have:=mono L
   omega
  ·have:=ih hc
   by_cases h1:r c.sp c.pg < r x.sp x.pg
   ·have h2:k < r x.sp x.pg:=by omega
    simp [h1,h2];exact this
   ·by_cases h2:k < r x.sp x.pg
    ·simp [h1,h2];omega
    ·simp [h1,h2];exact this
theorem younger_gone (r:Int->Int->Nat) (L:List Lf) (k:Nat) (s n:Int) (own:Bool):younger r (goneL L s n own) k<=younger r L k:=by
 unfold younger goneL
 rw [List.filter_filter,List.filter_congr (fun l _=>Bool.and_comm _ _),<- List.filter_filter]
 exact List.length_filter_le _ _
theorem out_ixl {L:List Lf}(ha:ApL L){s n:Int}:∀ {i:Nat}{p:Lf},L[i]? = some p->p.sp=s->p.pg=n->L.take i ++ L.drop (i+1)=L.filter (fun l=>!(l.sp == s && l.pg == n)):=by
 induction L with
 | nil=>intro i p h;simp at h
 | cons q L ih=>
  rw [ApL,List.pairwise_cons] at ha
  intro i p h e1 e2
  cases i with
  | zero=>
   simp only [List.getElem?_cons_zero,Option.some.injEq] at h
   subst h
   have:L.filter (fun l=>!(l.sp == s && l.pg == n))=L:=by
    rw [List.filter_eq_self]
    intro x hx
    have:=ha.1 x hx
    rw [e1,e2] at this
    rw [eq2_false (fun g=>this ⟨g.1.symm,g.2.symm⟩)];rfl
   simp only [List.take_zero,List.nil_append,Nat.zero_add,List.drop_succ_cons,List.drop_zero]
   rw [List.filter_cons_of_neg (by simp [e1,e2]),this]
  | succ i=>
   have hp:p∈L:=List.mem_of_getElem? (by simpa using h)
   have hq:¬ (q.sp=s/\q.pg=n):=fun hq=>ha.1 p hp ⟨hq.1.trans e1.symm,hq.2.trans e2.symm⟩
   have:=ih ha.2 (i:=i) (p:=p) (by simpa using h) e1 e2
   rw [List.filter_cons_of_pos (by rw [eq2_false hq];rfl),<- this]
   simp
theorem Fr.then2 {S T:Nat->Prop}{a b c:World}(h:Fr S a b) (k:Fr T b c) (ht:∀ i,i < a.heap.size->T i->S i):Fr S a c:=(h.join k).mono (fun i hi e=>e.elim id (ht i hi))
def slN:Option Value->Nat
 | some (.slice _ n _)=>n
 | _=>0
def Gone (y:Nat) (K:RM) (vt vp vl:Value) (sl:List (Sv×Sv)) (L:List Lf) (w w':World):Prop:=
 ∃ vl',RmAt w' y { K with leaves:=L } vt vp vl' sl/\Fr (fun q=>q=y\/vl.ownBlock=some q) w w'/\∀ k,vl'.ownBlock=some k->vl.ownBlock=some k\/w.heap.size<=k
theorem rmGone_any (N:Nat):∀ (y:Nat) (K:RM) (vt vp vl:Value) (sl:List (Sv×Sv)) (s n:Int) (own:Bool) (w:World) (r:Int->Int->Nat),RmAt w y K vt vp vl sl->K.leaves.length<=1000000000000->ApL K.leaves->Kin r K.leaves->0<=s->younger r K.leaves (r s n) < N ->
  Calls Tryz.prog 108 #[.pointer (some ⟨y,0,none⟩),.int .i64 s,.int .i64 n,.bool own] w fun e w'=>e=.returned (.tuple #[])/\Gone y K vt vp vl sl (goneL K.leaves s n own) w w':=by
 induction N with
 | zero=>intro y K vt vp vl sl s n own w r h hl ha hk hs0 hN;omega
 | succ N IH=>
  intro y K vt vp vl sl s n own w r h hl ha hk hs0 hN
  have HI:=hid IH
  have ly:=h.ly
  obtain ⟨i2,hi2,hx0,hx1,hx2⟩:=info_parts Tryz.infoN192
  have HH:=hid (And.intro h (And.intro hl (And.intro ha (And.intro hk hN))))
  clear IH h hl ha hk hN
  go_enter Tryz.func108,Tryz.ntmps108
  go_wp2
  go_loopw [8] (fun ag wr=>∃ (L:List Lf) (vl2:Value),(ag=.bool true\/(ag=.bool false/\Hid (∀ c∈L,¬ (c.usp=s/\c.upg=n))))/\slN (wr.cell? ⟨y,3,none⟩)=L.length/\Hid (goneL L s n own=goneL K.leaves s n own/\L.length<=K.leaves.length/\ApL L/\Kin r L/\younger r L (r s n) < N+1/\RmAt wr y { K with leaves:=L } vt vp vl2 sl/\Fr (fun q=>q=y\/vl.ownBlock=some q) w wr/\∀ k,vl2.ownBlock=some k->vl.ownBlock=some k\/w.heap.size<=k)) (fun ag wr=>2*slN (wr.cell? ⟨y,3,none⟩)+agN ag)
  case atStart=>
   refine ⟨K.leaves,vl,.inl rfl,?_,rfl,Nat.le_refl _,HH.out.2.2.1,HH.out.2.2.2.1,HH.out.2.2.2.2,HH.out.1,Fr.refl _ _,fun k hk=>.inl hk⟩
   obtain ⟨a,c,ev⟩:=HH.out.1.le.slice
   rw [(HH.out.1.cell 3).trans (show _=some vl from rfl),ev]
   simp [slN]
  case round=>
   obtain ⟨L,vl2,hag,hlen,HL⟩:=hrel
   rename World=>wa
   obtain ⟨al,cl,ev⟩:=HL.out.2.2.2.2.2.1.le.slice
   rw [List.length_map] at ev
   obtain ⟨ml,hml⟩:∃ ml,L.length=ml:=⟨_,rfl⟩
   have hmx:ml<=1000000000000:=by have:=HL.out.2.1;have:=HH.out.2.1;omega
   have HM:=hid hml
   have c3:wa.cell? ⟨y,3,none⟩=some (.slice al ml cl):=by rw [(HL.out.2.2.2.2.2.1.cell 3).trans (show _=some vl2 from rfl),ev];exact congrArg some (by rw [<- hml])
   have lya:y < wa.heap.size:=HL.out.2.2.2.2.2.1.ly
   subst ev
   clear hml
   rcases hag with rfl | ⟨rfl,HNo⟩
   ·go_wp2
    go_loopw [8,9] (fun ag i wr=>∃ k:Nat,i=.int .i64 k/\((ag=.bool false/\k<=ml/\Hid ((∀ (j:Nat) c,j < k->L[j]? = some c->¬ (c.usp=s/\c.upg=n))/\Below wa.heap.size wa wr))\/(ag=.bool true/\∃ (L3:List Lf) (vl3:Value),slN (wr.cell? ⟨y,3,none⟩)=L3.length/\L3.length < ml/\k<=ml/\Hid (goneL L3 s n own=goneL K.leaves s n own/\L3.length<=K.leaves.length/\ApL L3/\Kin r L3/\younger r L3 (r s n) < N+1/\RmAt wr y { K with leaves:=L3 } vt vp vl3 sl/\Fr (fun q=>q=y\/vl.ownBlock=some q) w wr/\∀ k,vl3.ownBlock=some k->vl.ownBlock=some k\/w.heap.size<=k)))) (fun ag i _=>(1-agN ag)*(ml+1)-(intOf i).toNat)
    case atStart=>exact ⟨0,rfl,.inl ⟨rfl,Nat.zero_le _,fun j c h=>absurd h (by omega),Below.refl _ _⟩⟩
    case round=>
     obtain ⟨k,rfl,⟨rfl,hk,HV⟩ | ⟨rfl,L3,vl3,hl3,hlt3,hk,HV⟩⟩:=hrel
     ·have hr:=HL.out.2.2.2.2.2.1.below HV.out.2
      have c3r:wr.cell? ⟨y,3,none⟩=some (.slice al ml cl):=(HV.out.2.cell (p:=⟨y,3,none⟩) lya).trans c3
      have lyr:y < wr.heap.size:=Nat.lt_of_lt_of_le lya HV.out.2.size
      by_cases hlt:k < ml
      ·obtain ⟨p,hp⟩:∃ p,L[k]? = some p:=⟨_,List.getElem?_eq_getElem (by rw [HM.out];exact hlt)⟩
       obtain ⟨gp,ea,hx⟩:=hr.le.is_some (by rw [HM.out];omega)
       clear hx
       subst ea
       have R1:=hid (hr.le.row (i:=k) (r:=[.int .i64 p.sp,.int .i64 p.pg,.int .i64 p.fr,.int .i64 p.rt,.int .i64 p.usp,.int .i64 p.upg]) (by rw [List.getElem?_map,hp];rfl))
       have lg:gp < wr.heap.size:=hr.le.lt rfl
       have hlt':(k:Int) < (ml:Int):=by omega
       have HP:=hid hp
       clear hr hp
       have NX:¬ (p.usp=s/\p.upg=n)->Hid ((∀ (j:Nat) c,j < k+1->L[j]? = some c->¬ (c.usp=s/\c.upg=n))):=fun hn j c hj hc=>by
        by_cases e:j < k
        ·exact HV.out.1 j c e hc
        ·have:j=k:=by omega
         subst this
         rw [HP.out] at hc
         cases hc
         exact hn
       have HNX:=hid NX
       clear NX
       by_cases q1:p.usp=s
       ·have d1:(p.usp == s)=true:=by simp [q1]
        by_cases q2:p.upg=n
        ·have d2:(p.upg == n)=true:=by simp [q2]
         have Q:=hid (And.intro q1 q2)
         clear q1 q2
         go_wp2_with (first | (with_reducible (show wpList _ _ _ (⟨_,.load 192 _,_,_,_,none⟩ :: _) _ _);go_must (refine wpList_load_mid rfl 192 _ rfl gp (k*6) rfl _ _ R1.out Tryz.underlying192 rfl (by kernel_rfl) ?_)) | (with_reducible (show wpList _ _ _ (⟨_,.store 192 _ _,_,_,_,none⟩ :: _) _ _);go_must (refine wpList_store_new rfl 192 _ _ rfl wr _ #[.int .i64 p.sp,.int .i64 p.pg,.int .i64 p.fr,.int .i64 p.rt,.int .i64 p.usp,.int .i64 p.upg] 192 rfl rfl (by kernel_rfl) rfl ?_ ?_);(simp [Value.oneCell'])))
         have hm:p∈L:=List.mem_of_getElem? HP.out
         have BX:Below wa.heap.size wa (wr.alloc (.cells #[.int .i64 p.sp,.int .i64 p.pg,.int .i64 p.fr,.int .i64 p.rt,.int .i64 p.usp,.int .i64 p.upg] 192)):=HV.out.2.alloc HV.out.2.size _
         have hy1:=younger_lt (r:=r) hm (kin_child HL.out.2.2.2.1 hm hs0 Q.out.1 Q.out.2)
         refine (HI.out y { K with leaves:=L } vt vp _ sl p.sp p.pg true _ r (HL.out.2.2.2.2.2.1.below BX) (by show L.length<=_;have:=HM.out;omega) HL.out.2.2.1 HL.out.2.2.2.1 (HL.out.2.2.2.1 p hm).1 (by have:=HL.out.2.2.2.2.1;show younger r L _ < N;omega)).mono ?_
         rintro e w3 ⟨rfl,vl3,RA,F3,O3⟩
         have H3:=hid (And.intro RA (And.intro F3 (And.intro O3 (And.intro hm BX))))
         have cc3:slN (w3.cell? ⟨y,3,none⟩)=(goneL L p.sp p.pg true).length:=by
          obtain ⟨a,c,ev⟩:=RA.le.slice
          rw [(RA.cell 3).trans (show _=some vl3 from rfl),ev]
          simp [slN]
         clear RA F3 O3 hm BX hy1
         go_wp2
         refine ⟨⟨k+1,by go_num,.inr ⟨rfl,goneL L p.sp p.pg true,vl3,cc3,by have:=gone_lt H3.out.2.2.2.1;have:=HM.out;omega,by omega,?_⟩⟩,by simp [intOf,agN];omega⟩
         refine ⟨(gone_step HL.out.2.2.1 H3.out.2.2.2.1 Q.out.1 Q.out.2 own).trans HL.out.1,Nat.le_trans (gone_len _ _ _ _) HL.out.2.1,gone_apl HL.out.2.2.1 _ _ _,gone_kin HL.out.2.2.2.1 _ _ _,Nat.lt_of_le_of_lt (younger_gone _ _ _ _ _ _) HL.out.2.2.2.2.1,H3.out.1,?_,fun q hq=>?_⟩
         ·refine HL.out.2.2.2.2.2.2.1.then2 ((Fr.of_below H3.out.2.2.2.2 _).trans H3.out.2.1) (fun q hq e=>?_)
          rcases e with e | e
          ·exact .inl e
          ·rcases HL.out.2.2.2.2.2.2.2 q e with g | g
           ·exact .inr g
           ·omega
         ·rcases H3.out.2.2.1 q hq with g | g
          ·exact HL.out.2.2.2.2.2.2.2 q g
          ·right
           have:=H3.out.2.2.2.2.size
           have:=HL.out.2.2.2.2.2.2.1.size
           omega
        ·have d2:(p.upg == n)=false:=by simp [q2]
         have NN:=HNX.out (fun h=>q2 h.2)
         clear q1 q2
         go_wp2_with (first | (with_reducible (show wpList _ _ _ (⟨_,.load 192 _,_,_,_,none⟩ :: _) _ _);go_must (refine wpList_load_mid rfl 192 _ rfl gp (k*6) rfl _ _ R1.out Tryz.underlying192 rfl (by kernel_rfl) ?_)) | (with_reducible (show wpList _ _ _ (⟨_,.store 192 _ _,_,_,_,none⟩ :: _) _ _);go_must (refine wpList_store_new rfl 192 _ _ rfl wr _ #[.int .i64 p.sp,.int .i64 p.pg,.int .i64 p.fr,.int .i64 p.rt,.int .i64 p.usp,.int .i64 p.upg] 192 rfl rfl (by kernel_rfl) rfl ?_ ?_);(simp [Value.oneCell'])))
         exact ⟨⟨k+1,by go_num,.inl ⟨rfl,by omega,NN.out,HV.out.2.alloc HV.out.2.size _⟩⟩,by simp [intOf,agN];omega⟩
       ·have d1:(p.usp == s)=false:=by simp [q1]
        have NN:=HNX.out (fun h=>q1 h.1)
        clear q1
        go_wp2_with (first | (with_reducible (show wpList _ _ _ (⟨_,.load 192 _,_,_,_,none⟩ :: _) _ _);go_must (refine wpList_load_mid rfl 192 _ rfl gp (k*6) rfl _ _ R1.out Tryz.underlying192 rfl (by kernel_rfl) ?_)) | (with_reducible (show wpList _ _ _ (⟨_,.store 192 _ _,_,_,_,none⟩ :: _) _ _);go_must (refine wpList_store_new rfl 192 _ _ rfl wr _ #[.int .i64 p.sp,.int .i64 p.pg,.int .i64 p.fr,.int .i64 p.rt,.int .i64 p.usp,.int .i64 p.upg] 192 rfl rfl (by kernel_rfl) rfl ?_ ?_);(simp [Value.oneCell'])))
        exact ⟨⟨k+1,by go_num,.inl ⟨rfl,by omega,NN.out,HV.out.2.alloc HV.out.2.size _⟩⟩,by simp [intOf,agN];omega⟩
      ·have hge:decide ((k:Int) < (ml:Int))=false:=by simp;omega
       have hkm:k=ml:=by omega
       subst hkm
       clear hr
       go_wp2
       refine ⟨⟨L,_,.inr ⟨rfl,fun c hc=>?_⟩,by rw [c3r,HM.out];rfl,HL.out.1,HL.out.2.1,HL.out.2.2.1,HL.out.2.2.2.1,HL.out.2.2.2.2.1,HL.out.2.2.2.2.2.1.below HV.out.2,HL.out.2.2.2.2.2.2.1.trans (Fr.of_below HV.out.2 _),HL.out.2.2.2.2.2.2.2⟩,by rw [c3r,c3];simp [agN]⟩
       obtain ⟨j,hj⟩:=List.getElem?_of_mem hc
       exact HV.out.1 j c (by have:=(List.getElem?_eq_some_iff.1 hj).1;have:=HM.out;omega) hj
     ·obtain ⟨al3,cl3,ev3⟩:=HV.out.2.2.2.2.2.1.le.slice
      rw [List.length_map] at ev3
      obtain ⟨m3,hm3⟩:∃ m3,L3.length=m3:=⟨_,rfl⟩
      have c3r:wr.cell? ⟨y,3,none⟩=some (.slice al3 m3 cl3):=by rw [(HV.out.2.2.2.2.2.1.cell 3).trans (show _=some vl3 from rfl),ev3,hm3]
      have lyr:y < wr.heap.size:=HV.out.2.2.2.2.2.1.ly
      have H3:=hid (And.intro hl3 hlt3)
      have HM3:=hid hm3
      clear ev3 hl3 hlt3 hm3
      by_cases hlt:k < m3
      ·have hd:decide ((k:Int) < (m3:Int))=true:=by simp;omega
       go_wp2
       exact ⟨⟨L3,vl3,.inl rfl,H3.out.1,HV.out⟩,by rw [H3.out.1,c3];simp [slN,agN];exact H3.out.2⟩
      ·have hd:decide ((k:Int) < (m3:Int))=false:=by simp;omega
       go_wp2
       exact ⟨⟨L3,vl3,.inl rfl,H3.out.1,HV.out⟩,by rw [H3.out.1,c3];simp [slN,agN];exact H3.out.2⟩
   ·have hr:=hid HL.out.2.2.2.2.2.1
    have EG:=hid (HL.out.1.symm.trans (gone_none HNo.out own))
    go_wp2_with fail
    refine (rmLeaf_any y { K with leaves:=L } vt vp _ sl s n _ hr.out (by show L.length<=_;have:=HM.out;omega)).mono ?_
    rintro e w2 ⟨q,rfl,hix,rfl⟩
    cases own with
    | false=>
     have E:=hid (show goneL K.leaves s n false=L from EG.out)
     clear hix
     go_wp2
     go_end0
     exact ⟨rfl,_,by rw [E.out];exact hr.out,HL.out.2.2.2.2.2.2.1,HL.out.2.2.2.2.2.2.2⟩
    | true=>
     have E0:=EG.out
     rw [if_pos rfl] at E0
     have hix2:IxLf L s n q:=hix
     rcases hix2 with ⟨rfl,hno⟩ | ⟨i,p,rfl,hpi,e1,e2⟩
     ·have E:=hid (show goneL K.leaves s n true=L by
       rw [E0,List.filter_eq_self]
       intro x hx
       obtain ⟨j,hj⟩:=List.getElem?_of_mem hx
       rw [eq2_false (hno j x hj)];rfl)
      clear hix hno E0
      go_wp2
      go_end0
      exact ⟨rfl,_,by rw [E.out];exact hr.out,HL.out.2.2.2.2.2.2.1,HL.out.2.2.2.2.2.2.2⟩
     ·have E:=hid (show goneL K.leaves s n true=L.take i ++ L.drop (i+1) by rw [E0,out_ixl HL.out.2.2.1 hpi e1 e2])
      have hil:i < ml:=by rw [<- HM.out];exact (List.getElem?_eq_some_iff.1 hpi).1
      have hil':(i:Int) < (ml:Int):=by omega
      obtain ⟨gp,ea,hx⟩:=hr.out.le.is_some (by rw [HM.out];omega)
      clear hx
      subst ea
      have hcp:ml<=cl:=by
       rcases hr.out.le.form with ⟨h1,_⟩ | ⟨g',cap,h1,h2,_⟩
       ·simp at h1
       ·simp only [Value.slice.injEq] at h1
        obtain ⟨_,_,rfl⟩:=h1
        rw [List.length_map] at h2;rw [<- HM.out];exact h2
      have hcp':(ml:Int)<=(cl:Int):=by omega
      have hicp:(i:Int)<=(cl:Int):=by omega
      have hone:∀ r∈L.map lfRow,∀ u∈r,u.oneCell'=true:=fun r hr u hu=>by
       obtain ⟨q,_,rfl⟩:=List.mem_map.1 hr
       exact List.all_eq_true.1 (show (lfRow q).all (·.oneCell')=true from rfl) u hu
      have HS1:Hid (Inl w2 6 (.slice (some ⟨gp,0,none⟩) i cl) ((L.map lfRow).take i)):=by
       have h:=Sl.part hr.out.le hone 0 i cl (.inr (by rw [List.length_map,HM.out];omega)) (by rw [List.drop_zero,List.length_take,List.length_map,HM.out];omega) (by rw [List.length_map,HM.out];unfold maxLen;omega)
       rw [List.drop_zero,Nat.zero_mul] at h
       exact h
      have HO:=hid hone
      clear hix hpi hone E0 e1 e2
      have LY:Hid (y < w2.heap.size):=lya
      go_wp2_with (first
       | (at_builtin;(refine wpList_append_n _ rfl (.tmp 59) (.tmp 65) 185 rfl 192 i2 _ 6 48 Tryz.underlying185 hi2 hx0 hx1 hx2 rfl (by decide) (.slice none 0 0) [] rfl (Sl.nil _ _ _) (some ⟨gp,0,none⟩) i cl _ rfl HS1.out i (by rw [List.length_nil,List.length_take,List.length_map,HM.out];omega) (by unfold maxLen;omega) (by omega) ?_);intro a4 c4 w4 G4;have F4:=(G4.fr (Fr.refl (fun _=>False) w2) (fun q hq'=>(by simp [Value.ownBlock] at hq')));have h4:=hr.out.kept F4 (fun _ _ h=>h);have c24:w4.cell? ⟨y,3,none⟩=some (.slice (some ⟨gp,0,none⟩) ml cl):=(by rw [<- HM.out];exact (h4.cell 3).trans rfl);have HS2:Hid (Inl w4 6 (.slice (if cl=i+1 then some ⟨gp,0,none⟩ else some ⟨gp,(i+1)*6,none⟩) (ml-(i+1)) (cl-(i+1))) ((L.map lfRow).drop (i+1))):=(by have h:=Sl.after h4.le HO.out (i+1) (by rw [List.length_map,HM.out];omega) (by rw [List.length_map,HM.out];exact hcp) (by rw [List.length_map,HM.out];unfold maxLen;omega);rw [List.length_map,HM.out] at h;exact h);have H4:=hid (And.intro h4 (And.intro G4 F4));clear h4 G4 F4)
       | (at_builtin;go_must (refine wpList_append_n _ rfl (.tmp 68) (.tmp 75) 185 rfl 192 i2 _ 6 48 Tryz.underlying185 hi2 hx0 hx1 hx2 rfl (by decide) (.slice a4 i c4) _ rfl H4.out.2.1.sl _ (ml-(i+1)) (cl-(i+1)) _ rfl HS2.out (ml-1) (by rw [List.nil_append,List.length_take,List.length_drop,List.length_map,HM.out];omega) (by unfold maxLen;omega) (by omega) ?_);intro a5 c5 w5 G5;have own4:∀ q,Value.ownBlock (.slice a4 i c4)=some q->w2.heap.size<=q:=(fun q hq'=>(H4.out.2.1.at_ q hq').elim id (fun h=>(by simp [Value.ownBlock] at h)));have hb5:=(G5.old (Nat.lt_of_lt_of_le LY.out H4.out.2.2.size) (fun h=>absurd (own4 _ h) (Nat.not_le.2 LY.out))).trans H4.out.1.blk;have c25:=(cell_of_row w5 y 3 _ _ _ hb5).trans (rfl:_=some _);have f25:w5.frozen? ⟨y,3,none⟩=false:=frozen_of_row _ _ _ _ _ hb5;have H5:=hid (And.intro hb5 (And.intro G5 own4));clear hb5 G5 own4))
      all_goals
       go_end0
       have own5:∀ q,Value.ownBlock (.slice a5 (ml-1) c5)=some q->w2.heap.size<=q:=fun q hq'=>by
        rcases H5.out.2.1.at_ q hq' with h | h
        ·exact Nat.le_trans H4.out.2.2.size h
        ·exact H5.out.2.2 q h
       have F5:Fr (fun _=>False) w2 w5:=H5.out.2.1.fr H4.out.2.2 (fun q hq' hlt=>absurd (H5.out.2.2 q hq') (Nat.not_le.2 hlt))
       have F6:Fr (fun q=>q=y) w2 (w5.setCell ⟨y,3,none⟩ (.slice a5 (ml-1) c5)):=(show Fr (fun q=>q=y) w2 w5 from F5.mono (fun _ _ h=>h.elim)).setCell (p:=⟨y,3,none⟩) (fun _=>rfl) _
       have h2:=hr.out
       have e3:(L.take i ++ L.drop (i+1)).map lfRow=[] ++ (L.map lfRow).take i ++ (L.map lfRow).drop (i+1):=by
        rw [List.map_append,List.map_take,List.map_drop,List.nil_append]
       have SP:Sl (w5.setCell ⟨y,3,none⟩ (.slice a5 (ml-1) c5)) 192 6 (.slice a5 (ml-1) c5) ((L.take i ++ L.drop (i+1)).map lfRow):=by
        rw [e3]
        exact H5.out.2.1.sl.kept ((Fr.refl (fun q=>q=y) w5).setCell (p:=⟨y,3,none⟩) (fun _=>rfl) _) (fun q hq' e=>by have:=own5 q hq';have:=LY.out;omega)
       have RA:RmAt (w5.setCell ⟨y,3,none⟩ (.slice a5 (ml-1) c5)) y { K with leaves:=L.take i ++ L.drop (i+1) } vt vp (.slice a5 (ml-1) c5) sl:=
        ⟨heap_setCell_same w5 y 3 _ _ _ H5.out.1,h2.ln,h2.th.kept F6 (fun q hq' e=>h2.n1 (e ▸ hq')),h2.pa.kept F6 (fun q hq' e=>h2.n2 (e ▸ hq')),SP,h2.words (F6.mono (fun q _ e=>.inl e)) (fun k hk hw=>hw.elim .inl (fun hw=>hw.elim (fun hw=>.inr (.inl hw)) (fun hw=>hw.elim (fun hw=>.inr (.inr (.inl hw))) (fun hw=>absurd (own5 _ hw) (Nat.not_le.2 hk))))),
        h2.n1,h2.n2,fun h=>absurd (own5 _ h) (Nat.not_le.2 LY.out),fun q hq'=>⟨(h2.n4 q hq').1,fun h=>absurd (own5 _ h) (Nat.not_le.2 (h2.th.lt hq'))⟩,fun q hq' h=>absurd (own5 _ h) (Nat.not_le.2 (h2.pa.lt hq'))⟩
       have FF:=HL.out.2.2.2.2.2.2.1.then2 F6 (fun q _ e=>.inl e)
       have OW:∀ q,Value.ownBlock (.slice a5 (ml-1) c5)=some q->vl.ownBlock=some q\/w.heap.size<=q:=fun q hq'=>.inr (Nat.le_trans HL.out.2.2.2.2.2.2.1.size (own5 q hq'))
       exact ⟨rfl,.slice a5 (ml-1) c5,by rw [E.out];exact RA,FF,OW⟩
open Go.RowKit
section
variable {P:Program}(w:World)
theorem append_keeps (t ty e:TypeId) (i:TypeInfo) (z:Value) (size bytes:Nat) (ht:P.underlying t=some (.slice e)) (hi:P.info? e=some i) (hz:i.zero=some z)
  (hsize:i.size=size) (hby:i.bytes=bytes)
  (v:Value) (rows:List (List Value)) (hown:Sl w e size v rows)
  (a:Addr) (m c:Nat) (news:List (List Value)) (hm:news.length=m) (hl:∀ r∈news,r.length=size) (hnews:∀ j u,news.flatten[j]? = some u->w.cell? (a.add j)=some u) (h1:∀ u∈news.flatten,u.oneCell'=true)
  (h63:rows.length+m<=maxLen) (hbytes:(rows.length+m)*bytes<=140737488355328){a':Option Addr}{n' c':Nat}{w':World}(hr:(Builtin.append_ #[t,t] ty #[v,.slice (some a) m c]).run P w=.ok (.slice a' n' c') w') :
  ∀ g,v.ownBlock=some g->Value.ownBlock (.slice a' n' c')=some g\/w'.heap[g]? = w.heap[g]?:=by
 subst hby
 subst hm
 have hfl:news.flatten.length=news.length*size:=flatten_len news hl
 intro q hq
 rcases hown.own.2 with ⟨rfl,hn0⟩ | ⟨g,cap,cur,rfl,hbg,hg,hnc,hcm,hcs,htake⟩
 ·simp [Value.ownBlock] at hq
 ·have hqg:q=g:=by simpa [Value.ownBlock,eq_comm] using hq
  subst hqg
  by_cases hroom:rows.length+news.length<=cap
  ·have hfit:rows.length*i.size+news.flatten.length<=cur.size:=by rw [hfl,hcs,hsize,<- Nat.add_mul];exact Nat.mul_le_mul_right _ hroom
   have hr2:=run_append_room (P:=P) w t ty e i ht hi q rows.length cap cur hg a news.length c news.flatten (by rw [hfl,hsize]) hnews h1 hroom hfit
   rw [hr2] at hr
   simp only [Result.ok.injEq,Value.slice.injEq] at hr
   obtain ⟨⟨rfl,_⟩,_⟩:=hr
   left;rfl
  ·have holds:∀ j u,rows.flatten[j]? = some u->w.cell? ((⟨q,0,none⟩:Addr).add j)=some u:=hown.own.cells (g:=q) rfl
   have hr2:=run_append_grow (P:=P) w t ty e i z ht hi hz ⟨q,0,none⟩ rows.length cap rows.flatten (by rw [flatten_len rows hown.len,hsize]) holds a news.length c news.flatten (by rw [hfl,hsize]) hnews (by omega) (by simp only [maxLen] at h63;omega) (growslice_fits (by omega) hbytes)
   rw [hr2] at hr
   simp only [Result.ok.injEq] at hr
   obtain ⟨_,hw⟩:=hr
   right
   rw [<- hw]
   exact Below.heap_alloc w.drew _ _ (hown.lt rfl)
theorem step_append_keep {ops:Array Oper}{o:Oper}{ac:Act}{K:Act->World->Prop}{Q:Exit->Act->World->Prop}{E:Prop}(hgd:o.guard=none) (s x:Operand) (t:TypeId)
  (ho:o.op=.call { callee:=.builtin .append,args:=#[s,x],argTypes:=#[t,t] })
  (e:TypeId) (i:TypeInfo) (z:Value) (size bytes:Nat) (ht:P.underlying t=some (.slice e)) (hi:P.info? e=some i) (hz:i.zero=some z)
  (hsize:i.size=size) (hby:i.bytes=bytes) (hzs:z.cells.size=size) (hsz:0 < size)
  (v:Value) (rows:List (List Value)) (hs:ac.eval s=v) (hown:Sl w e size v rows)
  (a:Addr) (m c:Nat) (news:List (List Value)) (hx:ac.eval x=.slice (some a) m c) (hm:news.length=m) (hm0:0 < m) (hl:∀ r∈news,r.length=size) (hnews:∀ j u,news.flatten[j]? = some u->w.cell? (a.add j)=some u) (h1:∀ u∈news.flatten,u.oneCell'=true)
  (h63:rows.length+m<=maxLen) (hbytes:(rows.length+m)*bytes<=140737488355328)
  (h:∀ a' c' w',Grew e size v w (.slice a' (rows.length+m) c') (rows ++ news) w'/\(∀ g,v.ownBlock=some g->Value.ownBlock (.slice a' (rows.length+m) c')=some g\/w'.heap[g]? = w.heap[g]?)->K (ac.put o.dst (.slice a' (rows.length+m) c')) w') :
  if Region.wanted o (yielded ops ac.tmps)=true then Oper.wp P o ac w K Q else E:=by
 obtain ⟨a',c',w',hr,hG⟩:=run_append_sl (P:=P) w t o.type e i z size bytes ht hi hz hsize hby hzs hsz v rows hown a m c news hm hm0 hl hnews h1 h63 hbytes
 have hK:=append_keeps (P:=P) w t o.type e i z size bytes ht hi hz hsize hby v rows hown a m c news hm hl hnews h1 h63 hbytes hr
 have hw:Region.wanted o (yielded ops ac.tmps)=true:=by simp [Region.wanted,hgd]
 rw [if_pos hw]
 unfold Oper.wp execOp
 simp only [ho,resolve,invoke,builtin,Sem.run_bind,Sem.run_pure,Result.andThen_ok,List.map_toArray,List.map_cons,List.map_nil,hs,hx,hr]
 exact h a' c' w' ⟨hG,hK⟩
end
theorem Sl.toInl {w:World}{e:TypeId}{a:Option Addr}{n c:Nat}{l:List Int}(h:Sl w e 1 (.slice a n c) (l.map lnI)) (hl:l.length<=maxLen):Inl w 1 (.slice a n c) (l.map lnI):=by
 have hlen:∀ r∈l.map lnI,r.length=1:=h.len
 have hone:∀ r∈l.map lnI,∀ u∈r,u.oneCell'=true:=fun r hr u hu=>by
  obtain ⟨z,_,rfl⟩:=List.mem_map.1 hr
  simp [lnI] at hu
  subst hu;rfl
 rcases h.form with ⟨e1,e2⟩ | ⟨g,cap,e1,_,_⟩
 ·exact ⟨hlen,hone,_,_,e1.trans (by rw [e2];rfl),by simpa using hl,.inl e2⟩
 ·have e2:=e1
  simp only [Value.slice.injEq] at e2
  obtain ⟨rfl,rfl,rfl⟩:=e2
  refine ⟨hlen,hone,_,_,rfl,by simpa using hl,.inr ⟨g,0,rfl,fun j v hv=>?_⟩⟩
  have:=h.own.cells (g:=g) rfl j v hv
  rw [Addr.add_mid] at this
  exact this
theorem own_of_in {w:World}{e:TypeId}{size:Nat}{a:Option Addr}{n c:Nat}{rows:List (List Value)}(h:Sl w e size (.slice a n c) rows){k:Nat}(hk:inBlock (.slice a n c)=some k):Value.ownBlock (.slice a n c)=some k:=by
 rcases h.form with ⟨e1,_⟩ | ⟨g,cap,e1,_,_⟩
 ·rw [e1] at hk;simp [inBlock] at hk
 ·rw [e1] at hk ⊢
  rcases hr:rows.length with _ | j
  ·rw [hr] at hk;simp [inBlock] at hk
  ·rw [hr] at hk;simpa [inBlock,Value.ownBlock] using hk
def findLf (L:List Lf) (s n:Int):Option Lf:=L.find? (fun l=>l.sp == s && l.pg == n)
theorem findLf_ix {L:List Lf}(ha:ApL L){s n r:Int}(h:IxLf L s n r):(r=-1/\findLf L s n=none)\/∃ (i:Nat) (p:Lf),r=i/\L[i]? = some p/\findLf L s n=some p/\p.sp=s/\p.pg=n:=by
 rcases h with ⟨rfl,hno⟩ | ⟨i,p,rfl,hp,h1,h2⟩
 ·left
  refine ⟨rfl,?_⟩
  unfold findLf
  rw [List.find?_eq_none]
  intro q hq
  obtain ⟨j,hj⟩:=List.getElem?_of_mem hq
  rw [eq2_false (hno j q hj)]
  simp
 ·right
  refine ⟨i,p,rfl,hp,?_,h1,h2⟩
  rcases hf:findLf L s n with _ | q
  ·have:=List.find?_eq_none.1 hf p (List.mem_of_getElem? hp)
   simp [h1,h2] at this
  ·have hq:=List.find?_some hf
   simp at hq
   have hm:=List.mem_of_find?_eq_some hf
   rw [ha.eq hm (List.mem_of_getElem? hp) (hq.1.trans h1.symm) (hq.2.trans h2.symm)]
noncomputable def lendL (L:List Lf) (a b:Th):List Lf×Int:=
 if a.item < 0\/b.win < 0\/a.lends=false then (L,-1) else
  match findLf (goneL L b.sp b.win true) a.sp a.item with
  | none=>(goneL L b.sp b.win true,-1)
  | some l=>if bits .and .i64 l.rt a.rt=0 then (goneL L b.sp b.win true,-1) else (goneL L b.sp b.win true ++ [⟨b.sp,b.win,l.fr,bits .and .i64 l.rt a.rt,a.sp,a.item⟩],b.win)
def RM.told (K:RM) (s r:Nat) (a:Th):RM:=K.upd r (fun u=>{ u with st:=1,time:=-1,code:=0,who:=s,ws:=a.mw,got:=-1 })
def WdOwn (sl:List (Sv×Sv)) (k:Nat):Prop:=∃ (i:Nat) (s:Sv×Sv),sl[i]? = some s/\(inBlock s.1.v=some k\/inBlock s.2.v=some k)
theorem wdOwn_set {sl:List (Sv×Sv)}{r:Nat}{sb:Sv×Sv}{x:Sv}{n:Nat}(hs:sl[r]? = some sb) (hx:∀ k,inBlock x.v=some k->n<=k){k:Nat}(hk:WdOwn (sl.set r (sb.1,x)) k):WdOwn sl k\/n<=k:=by
 obtain ⟨i,s,hi,hk⟩:=hk
 rw [List.getElem?_set] at hi
 by_cases e:r=i
 ·subst e
  rw [if_pos rfl,if_pos (List.getElem?_eq_some_iff.1 hs).1] at hi
  cases hi
  rcases hk with hk | hk
  ·exact .inl ⟨r,sb,hs,.inl hk⟩
  ·exact .inr (hx k hk)
 ·rw [if_neg e] at hi
  exact .inl ⟨i,s,hi,hk⟩
structure Out (y:Nat) (K':RM) (vt vp vl:Value) (sl:List (Sv×Sv)) (w w':World) (vl':Value) (sl':List (Sv×Sv)):Prop where
 at_:RmAt w' y K' vt vp vl' sl'
 fr:Fr (Wr y vt vp vl) w w'
 ov:∀ k,vl'.ownBlock=some k->vl.ownBlock=some k\/w.heap.size<=k
 os:∀ k,WdOwn sl' k->WdOwn sl k\/w.heap.size<=k
theorem Out.trans {y:Nat}{K1 K2:RM}{vt vp vl vl1 vl2:Value}{sl sl1 sl2:List (Sv×Sv)}{w w1 w2:World}(h:Out y K1 vt vp vl sl w w1 vl1 sl1) (k:Out y K2 vt vp vl1 sl1 w1 w2 vl2 sl2):Out y K2 vt vp vl sl w w2 vl2 sl2:=
 ⟨k.at_,h.fr.then2 k.fr (fun i hi e=>e.elim .inl (fun e=>e.elim (fun e=>.inr (.inl e)) (fun e=>e.elim (fun e=>.inr (.inr (.inl e))) (fun e=>(h.ov i e).elim (fun e=>.inr (.inr (.inr e))) (fun e=>by omega))))),fun i e=>by
   rcases k.ov i e with e | e
   ·exact h.ov i e
   ·exact .inr (Nat.le_trans h.fr.size e),fun i e=>by
   rcases k.os i e with e | e
   ·exact h.os i e
   ·exact .inr (Nat.le_trans h.fr.size e)⟩
theorem Out.plain {y:Nat}{K':RM}{vt vp vl:Value}{sl:List (Sv×Sv)}{w w':World}(h:RmAt w' y K' vt vp vl sl) (hf:Fr (Wr y vt vp vl) w w'):Out y K' vt vp vl sl w w' vl sl:=⟨h,hf,fun _ e=>.inl e,fun _ e=>.inl e⟩
noncomputable def RM.deliver (K:RM) (s r:Nat):RM:=
 match K.threads[s]?,K.threads[r]? with
 | some a,some b=>{ K.upd r (fun u=>{ u with st:=1,time:=-1,code:=0,who:=s,ws:=a.mw,got:=(lendL K.leaves a b).2 }) with leaves:=(lendL K.leaves a b).1 }
 | _,_=>K
theorem lend_app {w5 wz:World}{y g gp B r i ml cl n5 c5:Nat}{a5:Option Addr}{O:Obj}{KC:Array Value}{rows:List (List Value)}{p:Lf}{a b:Th}(G5:Grew 192 6 (.slice (some ⟨gp,0,none⟩) ml cl) (wz.alloc O).drew (.slice a5 n5 c5) rows w5) (K5:∀ g,Value.ownBlock (.slice (some ⟨gp,0,none⟩) ml cl)=some g->Value.ownBlock (.slice a5 n5 c5)=some g\/w5.heap[g]? = (wz.alloc O).drew.heap[g]?)
  (ly:y < wz.heap.size) (lg:g < wz.heap.size) (lB:B+1 < wz.heap.size) (lgp:gp < wz.heap.size) (h1:gp≠y) (h2:g≠gp) (h3:B≠gp) (h4:B+1≠gp) (h5:g≠y) (h6:B≠y) (h7:B+1≠y)
  (hblk:wz.heap[y]? = some (.cells KC 188 (0,0))) (hr:rows[i]? = some (lfRow p)) (hz:wz.rangeAt gp (i*6) (lfRow p))
  (hS:wz.cell? ⟨g,r*20,none⟩=some (.int .i64 b.sp)/\wz.cell? ⟨B+1,5,none⟩=some (.int .i64 b.win)/\wz.cell? ⟨gp,i*6+2,none⟩=some (.int .i64 p.fr)/\wz.cell? ⟨gp,i*6+3,none⟩=some (.int .i64 p.rt)/\wz.cell? ⟨B,8,none⟩=some (.int .i64 a.rt)/\wz.cell? ⟨B,0,none⟩=some (.int .i64 a.sp)/\wz.cell? ⟨B,7,none⟩=some (.int .i64 a.item)) :
  w5.heap[y]? = some (.cells KC 188 (0,0))/\(w5.cell? ⟨g,r*20,none⟩=some (.int .i64 b.sp)/\w5.cell? ⟨B+1,5,none⟩=some (.int .i64 b.win)/\w5.cell? ⟨gp,i*6+2,none⟩=some (.int .i64 p.fr)/\w5.cell? ⟨gp,i*6+3,none⟩=some (.int .i64 p.rt)/\w5.cell? ⟨B,8,none⟩=some (.int .i64 a.rt)/\w5.cell? ⟨B,0,none⟩=some (.int .i64 a.sp)/\w5.cell? ⟨B,7,none⟩=some (.int .i64 a.item))/\(∀ v,(w5.setCell ⟨y,3,none⟩ v).cell? ⟨g,r*20,none⟩=some (.int .i64 b.sp)/\(w5.setCell ⟨y,3,none⟩ v).cell? ⟨B+1,5,none⟩=some (.int .i64 b.win)/\(w5.setCell ⟨y,3,none⟩ v).cell? ⟨gp,i*6+2,none⟩=some (.int .i64 p.fr)/\(w5.setCell ⟨y,3,none⟩ v).cell? ⟨gp,i*6+3,none⟩=some (.int .i64 p.rt)/\(w5.setCell ⟨y,3,none⟩ v).cell? ⟨B,8,none⟩=some (.int .i64 a.rt)/\(w5.setCell ⟨y,3,none⟩ v).cell? ⟨B,0,none⟩=some (.int .i64 a.sp)/\(w5.setCell ⟨y,3,none⟩ v).cell? ⟨B,7,none⟩=some (.int .i64 a.item))/\wz.heap.size<=w5.heap.size:=by
 have OLD:∀ k,k < wz.heap.size->k≠gp->w5.heap[k]? = wz.heap[k]?:=fun k hk hne=>(G5.old (by simp;omega) (by simp [Value.ownBlock];omega)).trans (Below.heap_alloc wz _ _ hk)
 have Z5:wz.heap.size<=w5.heap.size:=Nat.le_trans (by simp) G5.by_.size
 have RG:w5.rangeAt gp (i*6) (lfRow p):=by
  rcases K5 gp rfl with e | e
  ·have ea:a5=some ⟨gp,0,none⟩:=by
    rcases G5.sl.form with ⟨e1,_⟩ | ⟨g',cap,e1,_,_⟩
    ·rw [e1] at e;simp [Value.ownBlock] at e
    ·simp only [Value.slice.injEq] at e1
     obtain ⟨rfl,_,_⟩:=e1
     have:g'=gp:=by simpa [Value.ownBlock] using e
     rw [this]
   have sl:=G5.sl
   rw [ea] at sl
   exact sl.row (i:=i) (r:=lfRow p) hr
  ·exact rangeAt_cells (rangeAt_cells hz (Below.heap_alloc wz _ _ lgp)) e
 have S5:w5.cell? ⟨g,r*20,none⟩=some (.int .i64 b.sp)/\w5.cell? ⟨B+1,5,none⟩=some (.int .i64 b.win)/\w5.cell? ⟨gp,i*6+2,none⟩=some (.int .i64 p.fr)/\w5.cell? ⟨gp,i*6+3,none⟩=some (.int .i64 p.rt)/\w5.cell? ⟨B,8,none⟩=some (.int .i64 a.rt)/\w5.cell? ⟨B,0,none⟩=some (.int .i64 a.sp)/\w5.cell? ⟨B,7,none⟩=some (.int .i64 a.item):=
  ⟨(World.cell?_of_block (OLD g lg h2)).trans hS.1,(World.cell?_of_block (OLD (B+1) lB h4)).trans hS.2.1,RG 2 _ rfl,RG 3 _ rfl,(World.cell?_of_block (OLD B (by omega) h3)).trans hS.2.2.2.2.1,(World.cell?_of_block (OLD B (by omega) h3)).trans hS.2.2.2.2.2.1,(World.cell?_of_block (OLD B (by omega) h3)).trans hS.2.2.2.2.2.2⟩
 refine ⟨(OLD y ly (fun e=>h1 e.symm)).trans hblk,S5,fun v=>?_,Z5⟩
 have FS:Fr (fun q=>q=y) w5 (w5.setCell ⟨y,3,none⟩ v):=(Fr.refl (fun q=>q=y) w5).setCell (p:=⟨y,3,none⟩) (fun _=>rfl) _
 exact ⟨(World.cell?_of_block (FS.block g (by omega) h5)).trans S5.1,(World.cell?_of_block (FS.block (B+1) (by omega) h7)).trans S5.2.1,(World.cell?_of_block (FS.block gp (by omega) h1)).trans S5.2.2.1,(World.cell?_of_block (FS.block gp (by omega) h1)).trans S5.2.2.2.1,(World.cell?_of_block (FS.block B (by omega) h6)).trans S5.2.2.2.2.1,(World.cell?_of_block (FS.block B (by omega) h6)).trans S5.2.2.2.2.2.1,(World.cell?_of_block (FS.block B (by omega) h6)).trans S5.2.2.2.2.2.2⟩
open Go.RowKit
structure FitT (sp:Int) (i:Nat) (t:Th):Prop where
 s0:0<=t.sp
 s1:t.sp<=sp-1
 r0:0<=t.row
 r1:t.row<=3
 l0:1<=t.left
 l1:t.left<=3
 mw:t.mw.length<=4
 ws:t.ws.length<=4
 win:t.win<=5
 st:t.st=1\/t.st=2\/t.st=3
 ot:t.st=2->t.other≠i
structure RM.Fit (K:RM):Prop where
 one:0 < K.threads.length
 six:K.threads.length<=6
 sp1:1<=K.sp
 sp3:K.sp<=3
 th:∀ (i:Nat) t,K.threads[i]? = some t->FitT K.sp i t
 ap:ApL K.leaves
 kin:∃ r,Kin r K.leaves
 lf:∀ l∈K.leaves,l.sp<=K.sp-1/\0<=l.pg/\l.pg<=5
theorem nodup_lt:∀ (m:Nat) (l:List Nat),l.Nodup->(∀ t∈l,t < m)->l.length<=m
 | 0,l,_,h=>by
  cases l with
  | nil=>simp
  | cons a r=>exact absurd (h a (by simp)) (by omega)
 | m+1,l,hn,h=>by
  have h1:(l.erase m).length<=m:=nodup_lt m (l.erase m) (hn.sublist List.erase_sublist) (fun t ht=>by
   have h2:=(hn.mem_erase_iff).1 ht
   have:=h t h2.2
   have:=h2.1
   omega)
  have:l.length<=(l.erase m).length+1:=by
   by_cases hm:m∈l
   ·rw [List.length_erase_of_mem hm];omega
   ·rw [List.erase_of_not_mem hm];omega
  omega
theorem RM.Fit.len {K:RM}(h:K.Fit):K.leaves.length<=18:=by
 obtain ⟨r,hk⟩:=h.kin
 have e:(K.leaves.map (fun l=>(l.sp*6+l.pg).toNat)).length=K.leaves.length:=by simp
 rw [<- e]
 apply nodup_lt
 ·rw [List.Nodup,List.pairwise_map]
  refine List.Pairwise.imp_of_mem ?_ h.ap
  intro x z hx hz hne e
  have h1:=h.lf x hx
  have h2:=h.lf z hz
  have h3:=(hk x hx).1
  have h4:=(hk z hz).1
  exact hne (by omega)
 ·intro t ht
  obtain ⟨l,hl,rfl⟩:=List.mem_map.1 ht
  have h1:=h.lf l hl
  have h3:=(hk l hl).1
  have:=h.sp3
  omega
theorem RM.Fit.upd {K:RM}(h:K.Fit) (r:Nat) (f:Th->Th) (hf:∀ t,K.threads[r]? = some t->FitT K.sp r (f t)):(K.upd r f).Fit:=by
 refine ⟨by simpa [RM.upd] using h.one,by simpa [RM.upd] using h.six,h.sp1,h.sp3,fun i t ht=>?_,h.ap,h.kin,h.lf⟩
 have ht2:(K.threads.modify r f)[i]? = some t:=ht
 rw [List.getElem?_modify] at ht2
 rcases hx:K.threads[i]? with _ | x
 ·rw [hx] at ht2;simp at ht2
 ·rw [hx] at ht2
  by_cases e:r=i
  ·subst e
   simp at ht2
   rw [<- ht2];exact hf x hx
  ·simp [e] at ht2
   rw [<- ht2];exact h.th i x hx
theorem RM.Fit.nums {K:RM} (h:K.Fit) (cl fi la:Int):({ K with clock:=cl,first:=fi,last:=la }:RM).Fit:=⟨h.one,h.six,h.sp1,h.sp3,h.th,h.ap,h.kin,h.lf⟩
theorem RM.Fit.setL {K:RM} (h:K.Fit) (L:List Lf) (ap:ApL L) (kin:∃ r,Kin r L) (lf:∀ l∈L,l.sp<=K.sp-1/\0<=l.pg/\l.pg<=5):({ K with leaves:=L }:RM).Fit:=⟨h.one,h.six,h.sp1,h.sp3,h.th,ap,kin,lf⟩
theorem RM.Fit.toFirst {K:RM} (h:K.Fit) (t:Nat):(K.toFirst t).Fit:=(h.upd t (fun u=>{ u with ord:=K.first }) (fun x hx=>by have f:=h.th t x hx;exact ⟨f.s0,f.s1,f.r0,f.r1,f.l0,f.l1,f.mw,f.ws,f.win,f.st,f.ot⟩)).nums _ _ _
theorem RM.Fit.toLast {K:RM} (h:K.Fit) (t:Nat):(K.toLast t).Fit:=(h.upd t (fun u=>{ u with ord:=K.last }) (fun x hx=>by have f:=h.th t x hx;exact ⟨f.s0,f.s1,f.r0,f.r1,f.l0,f.l1,f.mw,f.ws,f.win,f.st,f.ot⟩)).nums _ _ _
theorem RM.Fit.over {K:RM}(h:K.Fit) (t:Nat) (e:Int):(K.over t e).Fit:=h.upd t _ (fun x hx=>by have f:=h.th t x hx;exact ⟨f.s0,f.s1,f.r0,f.r1,f.l0,f.l1,f.mw,by simp,f.win,.inl rfl,fun g=>by simp at g⟩)
theorem RM.Fit.waits {K:RM} (h:K.Fit) (t:Nat) (st other:Int) (hs:st=2\/st=3) (ho:st=2->other≠t):(K.waits t st other).Fit:=(h.upd t (fun u=>{ u with st:=st,other:=other,turn:=K.last,time:=tim K.clock u.wait }) (fun x hx=>by have f:=h.th t x hx;exact ⟨f.s0,f.s1,f.r0,f.r1,f.l0,f.l1,f.mw,f.ws,f.win,.inr hs,ho⟩)).nums _ _ _
theorem lend_fit {L:List Lf}{sp:Int}(ap:ApL L) (kin:∃ r,Kin r L) (lf:∀ l∈L,l.sp<=sp-1/\0<=l.pg/\l.pg<=5) (a b:Th) (b0:0<=b.sp) (b1:b.sp<=sp-1) (b2:b.win<=5) :
  ApL (lendL L a b).1/\(∃ r,Kin r (lendL L a b).1)/\∀ l∈(lendL L a b).1,l.sp<=sp-1/\0<=l.pg/\l.pg<=5:=by
 obtain ⟨r,hk⟩:=kin
 have G1:=gone_apl ap b.sp b.win true
 have G2:=gone_kin hk b.sp b.win true
 have G3:∀ l∈goneL L b.sp b.win true,l.sp<=sp-1/\0<=l.pg/\l.pg<=5:=fun l hl=>lf l (mem_gone.1 hl).1
 unfold lendL
 split
 ·exact ⟨ap,⟨r,hk⟩,lf⟩
 ·rename_i hn
  split
  ·exact ⟨G1,⟨r,G2⟩,G3⟩
  ·rename_i l hl
   have hm:=List.mem_of_find?_eq_some hl
   have hq:=List.find?_some hl
   simp at hq
   split
   ·exact ⟨G1,⟨r,G2⟩,G3⟩
   ·have away:∀ z∈goneL L b.sp b.win true,¬ (z.sp=b.sp/\z.pg=b.win):=fun z hz e=>(mem_gone.1 hz).2.2 ⟨rfl,e⟩
    refine ⟨?_,⟨fun s n=>if s=b.sp/\n=b.win then r a.sp a.item+1 else r s n,?_⟩,?_⟩
    ·refine List.pairwise_append.2 ⟨G1,by simp,fun x hx z hz=>?_⟩
     rw [List.mem_singleton] at hz
     rw [hz]
     exact away x hx
    ·intro z hz
     rcases List.mem_append.1 hz with hz | hz
     ·refine ⟨(G2 z hz).1,?_⟩
      rcases (G2 z hz).2 with e | ⟨p,hp,e1,e2,e3⟩
      ·exact .inl e
      ·exact .inr ⟨p,List.mem_append_left _ hp,e1,e2,by dsimp only;rw [if_neg (away p hp),if_neg (away z hz)];exact e3⟩
     ·rw [List.mem_singleton] at hz
      rw [hz]
      refine ⟨b0,.inr ⟨l,List.mem_append_left _ hm,hq.1,hq.2,?_⟩⟩
      dsimp only
      rw [if_neg (away l hm),if_pos ⟨rfl,rfl⟩,hq.1,hq.2]
      omega
    ·intro z hz
     rcases List.mem_append.1 hz with hz | hz
     ·exact G3 z hz
     ·rw [List.mem_singleton] at hz
      rw [hz]
      exact ⟨b1,by dsimp only;omega,b2⟩
theorem RM.Fit.deliver {K:RM}(h:K.Fit) (s r:Nat):(K.deliver s r).Fit:=by
 unfold RM.deliver
 rcases hs:K.threads[s]? with _ | a
 ·exact h
 ·rcases hr:K.threads[r]? with _ | b
  ·exact h
  ·have fa:=h.th s a hs
   have fb:=h.th r b hr
   obtain ⟨g1,g2,g3⟩:=lend_fit h.ap h.kin h.lf a b fb.s0 fb.s1 fb.win
   exact (h.upd r _ (fun x hx=>by have f:=h.th r x hx;exact ⟨f.s0,f.s1,f.r0,f.r1,f.l0,f.l1,f.mw,fa.mw,f.win,.inl rfl,fun g=>by simp at g⟩)).setL _ g1 g2 g3
noncomputable def RM.heard (K:RM) (s t:Nat) (stands:Bool):RM:=if stands=true then K.deliver s t else (K.deliver s t).toFirst t
noncomputable def RM.recv:Nat->RM->Nat->Bool->RM
 | 0,K,_,_=>K
 | n+1,K,t,stands=>
  match K.threads[t]? with
  | none=>K
  | some x=>
   if senM K.threads t x.frm K.threads.length < 0 then
    if x.wait≠0 then K.waits t 3 (-1) else if stands=true then K.over t 5 else (K.over t 5).toLast t
   else
    match (K.heard (senM K.threads t x.frm K.threads.length).toNat t stands).threads[(senM K.threads t x.frm K.threads.length).toNat]? with
    | none=>K.heard (senM K.threads t x.frm K.threads.length).toNat t stands
    | some z=>
     if z.frm≠-2 then RM.recv n (K.heard (senM K.threads t x.frm K.threads.length).toNat t stands) (senM K.threads t x.frm K.threads.length).toNat false
     else if false=true then (K.heard (senM K.threads t x.frm K.threads.length).toNat t stands).over (senM K.threads t x.frm K.threads.length).toNat 0
     else ((K.heard (senM K.threads t x.frm K.threads.length).toNat t stands).over (senM K.threads t x.frm K.threads.length).toNat 0).toLast (senM K.threads t x.frm K.threads.length).toNat
noncomputable def RM.goes (n:Nat) (K:RM) (s:Nat) (stands:Bool):RM:=
 match K.threads[s]? with
 | none=>K
 | some z=>if z.frm≠-2 then K.recv n s stands else if stands=true then K.over s 0 else (K.over s 0).toLast s
theorem recv_none {n:Nat}{K:RM}{t:Nat}{stands:Bool}{x:Th}(hx:K.threads[t]? = some x) (hs:senM K.threads t x.frm K.threads.length < 0):K.recv (n+1) t stands=if x.wait≠0 then K.waits t 3 (-1) else if stands=true then K.over t 5 else (K.over t 5).toLast t:=by
 simp only [RM.recv,hx]
 rw [if_pos hs]
theorem recv_some {n:Nat}{K:RM}{t s:Nat}{stands:Bool}{x:Th}(hx:K.threads[t]? = some x) (hs:senM K.threads t x.frm K.threads.length=s):K.recv (n+1) t stands=(K.heard s t stands).goes n s false:=by
 simp only [RM.recv,hx,hs]
 rw [if_neg (by omega),Int.toNat_natCast]
 rfl
theorem RM.Fit.heard {K:RM}(h:K.Fit) (s t:Nat) (stands:Bool):(K.heard s t stands).Fit:=by
 unfold RM.heard
 split
 ·exact h.deliver s t
 ·exact (h.deliver s t).toFirst t
def sending (ts:List Th):Nat:=(ts.filter (fun t=>t.st == 2)).length
theorem sending_modify {ts:List Th}{t:Nat}{u:Th}(f:Th->Th) (hu:ts[t]? = some u) (h2:(f u).st≠2):sending (ts.modify t f)+(if u.st=2 then 1 else 0)=sending ts:=by
 unfold sending
 induction ts generalizing t with
 | nil=>simp at hu
 | cons x ts ih=>
  cases t with
  | zero=>
   simp at hu
   subst hu
   rw [List.modify_zero_cons,List.filter_cons,List.filter_cons]
   by_cases e:x.st=2
   ·simp [e,h2]
   ·simp [e,h2]
  | succ t=>
   have:=ih (t:=t) (by simpa using hu)
   rw [List.modify_succ_cons,List.filter_cons,List.filter_cons]
   by_cases e:x.st=2
   ·simp [e];omega
   ·simp [e];omega
theorem sending_pos {ts:List Th}{t:Nat}{u:Th}(hu:ts[t]? = some u) (h2:u.st=2):0 < sending ts:=by
 unfold sending
 exact List.length_pos_of_mem (List.mem_filter.2 ⟨List.mem_of_getElem? hu,by simp [h2]⟩)
open Go.RowKit
theorem rmLook_no (y:Nat) (K:RM) (vt vp vl:Value) (sl:List (Sv×Sv)) (t:Int) (w:World) (h:RmAt w y K vt vp vl sl) (hb:K.threads.length<=6) (ht:¬ (0<=t/\t < K.threads.length)) :
  Calls Tryz.prog 109 #[.pointer (some ⟨y,0,none⟩),.int .i64 t] w fun e w'=>e=.returned (.tuple #[.agg #[.int .i64 0,.int .i64 0,.int .i64 0,.slice none 0 0,.int .i64 0],.int .i64 3])/\Below w.heap.size w w':=by
 have c0:w.cell? ⟨y,0,none⟩=some vt:=(h.cell 0).trans rfl
 have ly:=(Array.getElem?_eq_some_iff.1 h.blk).1
 obtain ⟨a,c,ev⟩:=h.th.slice
 rw [trows_len h.ln] at ev
 subst ev
 obtain ⟨m,hm⟩:∃ m,K.threads.length=m:=⟨_,rfl⟩
 rw [hm] at c0 hb ht
 have hi:inI t 0 ((m:Int)-1)=false:=inI_false.2 (by omega)
 clear h hm ht
 go_enter Tryz.func109,Tryz.ntmps109
 go_wp2_with (go_at_call 106;refine (in_any _ _ _ _).mono ?_;rintro e w1 ⟨rfl,rfl⟩)
 refine bodyPost_ret (v:=.tuple #[.agg #[.int .i64 0,.int .i64 0,.int .i64 0,.slice none 0 0,.int .i64 0],.int .i64 3]) (results_row_tmp Tryz.results109 _ _ w.heap.size 50 _ (0,0) _ _ rfl (heap_alloc_new w _) Tryz.underlying50 rfl (by kernel_rfl) rfl) rfl ⟨rfl,(Below.refl _ w).alloc (Nat.le_refl _) _⟩
theorem rmLook_yes (y:Nat) (K:RM) (vt vp vl:Value) (sl:List (Sv×Sv)) (t:Nat) (u:Th) (s:Sv×Sv) (w:World) (h:RmAt w y K vt vp vl sl) (hb:K.threads.length<=6) (hu:K.threads[t]? = some u) (hs:sl[t]? = some s) :
  Calls Tryz.prog 109 #[.pointer (some ⟨y,0,none⟩),.int .i64 t] w fun e w'=>e=.returned (.tuple #[.agg #[.int .i64 u.st,.int .i64 u.code,.int .i64 u.who,.slice s.2.a s.2.n s.2.c,.int .i64 u.got],.int .i64 0])/\Below w.heap.size w w':=by
 have ht:=(List.getElem?_eq_some_iff.1 hu).1
 have c0:w.cell? ⟨y,0,none⟩=some vt:=(h.cell 0).trans rfl
 have ly:=(Array.getElem?_eq_some_iff.1 h.blk).1
 obtain ⟨a,c,ev⟩:=h.th.slice
 rw [trows_len h.ln] at ev
 subst ev
 obtain ⟨m,hm⟩:∃ m,K.threads.length=m:=⟨_,rfl⟩
 rw [hm] at c0 hb ht h
 obtain ⟨g,ea,hx⟩:=h.th.is_some (by omega)
 clear hx
 subst ea
 have hi:inI t 0 ((m:Int)-1)=true:=inI_true.2 (by omega)
 have tm:(t:Int) < (m:Int):=by omega
 have R1:=hid (World.rangeAt_alloc (h.th.row (i:=t) (r:=[.int .i64 u.sp,.int .i64 u.row,.int .i64 u.st,.int .i64 u.ord,.int .i64 u.left,.int .i64 u.dst,.slice s.1.a s.1.n s.1.c,.int .i64 u.item,.int .i64 u.rt,.int .i64 u.frm,.int .i64 u.win,.int .i64 u.wait,.bool u.lends,.int .i64 u.other,.int .i64 u.turn,.int .i64 u.time,.int .i64 u.code,.int .i64 u.who,.slice s.2.a s.2.n s.2.c,.int .i64 u.got]) (trows_get hu hs)) (.cells #[.int .i64 0,.int .i64 0,.int .i64 0,.slice none 0 0,.int .i64 0] 50))
 clear h hm hu hs
 go_enter Tryz.func109,Tryz.ntmps109
 go_wp2_with (first
  | (go_at_call 106;refine (in_any _ _ _ _).mono ?_;rintro e w1 ⟨rfl,rfl⟩)
  | (with_reducible (show wpList _ _ _ (⟨_,.load 190 _,_,_,_,none⟩ :: _) _ _);go_must (refine wpList_load_mid rfl 190 _ rfl g (t*20) rfl _ _ R1.out Tryz.underlying190 rfl (by kernel_rfl) ?_))
  | (with_reducible (show wpList _ _ _ (⟨_,.store 190 _ _,_,_,_,none⟩ :: _) _ _);go_must (refine wpList_store_new rfl 190 _ _ rfl (w.alloc (.cells #[.int .i64 0,.int .i64 0,.int .i64 0,.slice none 0 0,.int .i64 0] 50)) _ #[.int .i64 u.sp,.int .i64 u.row,.int .i64 u.st,.int .i64 u.ord,.int .i64 u.left,.int .i64 u.dst,.slice s.1.a s.1.n s.1.c,.int .i64 u.item,.int .i64 u.rt,.int .i64 u.frm,.int .i64 u.win,.int .i64 u.wait,.bool u.lends,.int .i64 u.other,.int .i64 u.turn,.int .i64 u.time,.int .i64 u.code,.int .i64 u.who,.slice s.2.a s.2.n s.2.c,.int .i64 u.got] 190 (by simp [Act.eval]) rfl (by kernel_rfl) rfl ?_ ?_);(simp [Value.oneCell'])))
 refine bodyPost_ret (v:=.tuple #[.agg #[.int .i64 u.st,.int .i64 u.code,.int .i64 u.who,.slice s.2.a s.2.n s.2.c,.int .i64 u.got],.int .i64 0]) (results_row_tmp Tryz.results109 _ _ w.heap.size 50 _ (0,0) _ _ rfl (heap_alloc2_old w _ _) Tryz.underlying50 rfl (by kernel_rfl) rfl) rfl ⟨rfl,((Below.refl _ w).alloc (Nat.le_refl _) _).alloc (by simp) _⟩
def quad (l:Lf):Int×Int×Int×Int:=(l.sp,l.pg,l.fr,l.rt)
theorem find_quad (L:List Lf) (s n:Int):findQ (L.map quad) s n=(findLf L s n).map quad:=by
 unfold findQ findLf
 rw [List.find?_map]
 rfl
theorem rmSpace_no (y:Nat) (K:RM) (vt vp vl:Value) (sl:List (Sv×Sv)) (t:Int) (w:World) (h:RmAt w y K vt vp vl sl) (s1:1<=K.sp) (s2:K.sp<=3) (ht:¬ (0<=t/\t < K.sp)) :
  Calls Tryz.prog 112 #[.pointer (some ⟨y,0,none⟩),.int .i64 t] w fun e w'=>e=.returned (.tuple #[.agg #[.slice none 0 0,.slice none 0 0],.int .i64 3])/\Below w.heap.size w w':=by
 have c0:w.cell? ⟨y,1,none⟩=some (.int .i64 K.sp):=(h.cell 1).trans rfl
 have ly:=(Array.getElem?_eq_some_iff.1 h.blk).1
 have hi:inI t 0 (K.sp-1)=false:=inI_false.2 (by omega)
 clear h ht
 go_enter Tryz.func112,Tryz.ntmps112
 go_wp2_with (go_at_call 106;refine (in_any _ _ _ _).mono ?_;rintro e w1 ⟨rfl,rfl⟩)
 refine bodyPost_ret (v:=.tuple #[.agg #[.slice none 0 0,.slice none 0 0],.int .i64 3]) (results_row_tmp Tryz.results112 _ _ w.heap.size 122 _ (0,0) _ _ rfl (heap_alloc_new w _) Tryz.underlying122 rfl (by kernel_rfl) rfl) rfl ⟨rfl,(Below.refl _ w).alloc (Nat.le_refl _) _⟩
theorem rmSpace_yes (y:Nat) (K:RM) (vt vp vl:Value) (sl:List (Sv×Sv)) (t:Int) (w:World) (h:RmAt w y K vt vp vl sl) (s1:1<=K.sp) (s2:K.sp<=3) (t0:0<=t) (t1:t < K.sp) (aq:Apart K.passes) (al:ApL K.leaves) (bq:K.passes.length<=1000000000000) (bl:K.leaves.length<=1000000000000) :
  Calls Tryz.prog 112 #[.pointer (some ⟨y,0,none⟩),.int .i64 t] w fun e w'=>∃ v u,e=.returned (.tuple #[.agg #[v,u],.int .i64 0])/\Sl w' 55 4 v ((told K.passes t 6).map qRow)/\Sl w' 67 4 u ((told (K.leaves.map quad) t 6).map qRow)/\Below w.heap.size w w' /\
   (∀ q,v.ownBlock=some q\/u.ownBlock=some q->w.heap.size<=q):=by
 have c0:w.cell? ⟨y,1,none⟩=some (.int .i64 K.sp):=(h.cell 1).trans rfl
 have ly:=(Array.getElem?_eq_some_iff.1 h.blk).1
 have hi:inI t 0 (K.sp-1)=true:=inI_true.2 (by omega)
 have HH:=hid (And.intro h (And.intro aq (And.intro al (And.intro bq bl))))
 clear h aq al bq bl
 obtain ⟨i2,hi2,hx0,hx1,hx2⟩:=info_parts Tryz.infoN55
 obtain ⟨i3,hi3,hy0,hy1,hy2⟩:=info_parts Tryz.infoN67
 go_enter Tryz.func112,Tryz.ntmps112
 go_wp2_with (go_at_call 106;refine (in_any _ _ _ _).mono ?_;rintro e w1 ⟨rfl,rfl⟩)
 clear hi c0
 go_loopw [8] (fun i wr=>∃ (k:Nat) (vo:Value),k<=6/\i=.int .i64 k/\Hid (wr.heap[w.heap.size]? = some (.cells #[.slice none 0 0,.slice none 0 0] 122 (0,0)))/\Hid (wr.heap[w.heap.size+1]? = some (.cells #[vo,.slice none 0 0] 122 (0,0)))/\Sl wr 55 4 vo ((told K.passes t k).map qRow)/\Hid (∀ q,vo.ownBlock=some q->w.heap.size+2<=q)/\Below w.heap.size w wr) (fun i _=>6-(intOf i).toNat)
 case atStart=>exact ⟨0,_,by omega,rfl,heap_alloc2_old w _ _,heap_alloc2_new w _ _,Sl.nil _ _ _,fun q h=>by simp [Value.ownBlock] at h,((Below.refl _ w).alloc (Nat.le_refl _) _).alloc (by simp) _⟩
 case round=>
  obtain ⟨k,vo,hk,rfl,hr0,hr1,hs,hq,hw⟩:=hrel
  by_cases hlt:k < 6
  ·have hR:=HH.out.1.below hw
   have H1:=hid (And.intro hr0.out (And.intro hr1.out (And.intro hs (And.intro hq.out hw))))
   obtain ⟨ao,co,eo⟩:=hs.slice
   clear hr0 hr1 hs hw
   go_wp2_with fail
   refine (rmPass_any y K vt vp vl sl t k _ hR HH.out.2.2.2.1).mono ?_
   rintro e w2 ⟨r,rfl,hix,hw2⟩
   have hw3:=hw2.symm
   subst hw3
   clear hw2
   rcases find_of_ix HH.out.2.1 hix with ⟨rfl,hf⟩ | ⟨i,p,rfl,hp,hf,f1,f2⟩
   ·have ET:Hid (told K.passes t (k+1)=told K.passes t k):=by unfold Hid;simp [told,hf]
    clear hix hf hR
    go_wp2
    first
     | exact ⟨⟨k+1,vo,by omega,by go_num,H1.out.1,H1.out.2.1,by rw [ET.out];exact H1.out.2.2.1,hq,H1.out.2.2.2.2⟩,by simp [intOf];omega⟩
     | (
      go_roundw
      case rel=>exact ⟨k+1,vo,by omega,by go_num,H1.out.1,H1.out.2.1,by rw [ET.out];exact H1.out.2.2.1,hq,H1.out.2.2.2.2⟩
      case measure=>simp [intOf];omega)
   ·have ET:Hid (told K.passes t (k+1)=told K.passes t k ++ [p]):=by unfold Hid;simp [told,hf]
    have hle:=told_le K.passes t k
    obtain ⟨n,en⟩:∃ n,(told K.passes t k).length=n:=⟨_,rfl⟩
    rw [List.length_map,en] at eo
    subst eo
    obtain ⟨av,cv,ev⟩:=hR.pa.slice
    rw [List.length_map] at ev
    obtain ⟨m,em⟩:∃ m,K.passes.length=m:=⟨_,rfl⟩
    rw [em] at ev
    have im:i < m:=by have:=(List.getElem?_eq_some_iff.1 hp).1;omega
    obtain ⟨g,ea,hx⟩:=(show Sl wr 55 4 (.slice av m cv) _ from ev ▸ hR.pa).is_some (by omega)
    clear hx
    subst ea
    have yc:wr.cell? ⟨y,2,none⟩=some (.slice (some ⟨g,0,none⟩) m cv):=by rw [<- ev];exact (hR.cell 2).trans rfl
    have rr:=(show Sl wr 55 4 (.slice (some ⟨g,0,none⟩) m cv) _ from ev ▸ hR.pa).row (i:=i) (r:=[.int .i64 p.1,.int .i64 p.2.1,.int .i64 p.2.2.1,.int .i64 p.2.2.2]) (by rw [List.getElem?_map,hp];rfl)
    have g0:=rr 0 (.int .i64 p.1) rfl
    have g1:=rr 1 (.int .i64 p.2.1) rfl
    have g2:=rr 2 (.int .i64 p.2.2.1) rfl
    have g3:=rr 3 (.int .i64 p.2.2.2) rfl
    simp only [Nat.add_zero] at g0
    have oc:wr.cell? ⟨w.heap.size+1,0,none⟩=some (.slice ao n co):=(cell_of_row wr _ 0 _ _ _ H1.out.2.1).trans rfl
    have mb:(m:Int)<=1000000000000:=by have:=HH.out.2.2.2.1;omega
    have im':(i:Int) < (m:Int):=by omega
    have lo:w.heap.size+1 < wr.heap.size:=(Array.getElem?_eq_some_iff.1 H1.out.2.1).1
    have lg:g < wr.heap.size:=block_lt_of_cell g0
    have ly':y < wr.heap.size:=block_lt_of_cell yc
    generalize hRr:(told K.passes t k).map qRow=R at H1
    have ER:Hid ((told K.passes t k).map qRow=R):=hRr
    have hRl:Hid (R.length=n):=by unfold Hid;rw [<- hRr,List.length_map,en]
    have nb:n<=6:=by omega
    have FH:=hid (And.intro f1 f2)
    clear hRr hix hf hR ev em rr hp en hle f1 f2
    go_wp2_with fail
    go_region_law (refine step_append_sl _ rfl _ _ 29 rfl 55 i2 _ 4 32 Tryz.underlying29 hi2 hx0 hx1 hx2 rfl (by decide) (.slice ao n co) R (by simp [Act.eval]) ((H1.out.2.2.1.alloc _).drew) ⟨wr.heap.size,0,none⟩ 1 1 [[.int .i64 p.1,.int .i64 p.2.1,.int .i64 p.2.2.1,.int .i64 p.2.2.2]] (by simp [Act.eval]) rfl (by decide) (by simp) (fun j u h=>cell_news wr #[.int .i64 p.1,.int .i64 p.2.1,.int .i64 p.2.2.1,.int .i64 p.2.2.2] 55 j u (by simpa using h)) (fun u hu=>by simp at hu;rcases hu with rfl | rfl | rfl | rfl <;> rfl) (by have:=hRl.out;unfold maxLen;omega) (by have:=hRl.out;omega) ?_;intro a4 c4 w4 G4;have hb4:Hid (w4.heap[w.heap.size+1]? = some (.cells #[.slice ao n co,.slice none 0 0] 122 (0,0))):=(G4.old (by simp;omega) (fun h=>by have:=hq.out _ h;omega)).trans ((((Fr.refl (fun _=>False) wr).alloc _).drew.block _ lo id).trans H1.out.2.1);have hc4:w4.cell? ⟨w.heap.size+1,0,none⟩=some (.slice ao n co):=(cell_of_row w4 _ 0 _ _ _ hb4.out).trans rfl;have hf4:w4.frozen? ⟨w.heap.size+1,0,none⟩=false:=frozen_of_row _ _ _ _ _ hb4.out)
    all_goals
     go_wp2
     have F4:Fr (fun q=>Value.ownBlock (.slice ao n co)=some q) wr w4:=G4.fr (((Fr.refl _ wr).alloc _).drew) (fun q hq' _=>hq')
     have F5:Fr (fun q=>q=w.heap.size+1) w4 (w4.setCell ⟨w.heap.size+1,0,none⟩ (.slice a4 (R.length+1) c4)):=(Fr.refl (fun q=>q=w.heap.size+1) w4).setCell (p:=⟨w.heap.size+1,0,none⟩) (fun _=>rfl) _
     have ub:Hid (∀ q,Value.ownBlock (.slice a4 (R.length+1) c4)=some q->w.heap.size+2<=q):=fun q hq'=>by
      rcases G4.at_ q hq' with h | h
      ·have h2:wr.heap.size+1<=q:=by simpa using h
       omega
      ·exact hq.out q h
     have lw0:=(Array.getElem?_eq_some_iff.1 H1.out.1).1
     have E0:Hid ((w4.setCell ⟨w.heap.size+1,0,none⟩ (.slice a4 (R.length+1) c4)).heap[w.heap.size]? = some (.cells #[.slice none 0 0,.slice none 0 0] 122 (0,0))):=(F5.block _ (by have:=F4.size;omega) (by omega)).trans ((F4.block _ lw0 (fun h=>by have:=hq.out _ h;omega)).trans H1.out.1)
     have E2:Sl (w4.setCell ⟨w.heap.size+1,0,none⟩ (.slice a4 (R.length+1) c4)) 55 4 (.slice a4 (R.length+1) c4) ((told K.passes t (k+1)).map qRow):=by
      rw [ET.out,List.map_append,ER.out]
      exact G4.sl.kept F5 (fun q hq' h=>by have:=ub.out q hq';omega)
     have E3:Below w.heap.size w (w4.setCell ⟨w.heap.size+1,0,none⟩ (.slice a4 (R.length+1) c4)):=(H1.out.2.2.2.2.trans (F4.to_below H1.out.2.2.2.2.size (fun q h=>by have:=hq.out q h;omega))).trans (F5.to_below (by have:=F4.size;have:=H1.out.2.2.2.2.size;omega) (fun q h=>by omega))
     first
      | exact ⟨⟨k+1,.slice a4 (R.length+1) c4,by omega,by go_num,E0,heap_setCell_same w4 _ 0 _ _ _ hb4.out,E2,ub,E3⟩,by simp [intOf];omega⟩
      | (
       go_roundw
       case rel=>exact ⟨k+1,.slice a4 (R.length+1) c4,by omega,by go_num,E0,heap_setCell_same w4 _ 0 _ _ _ hb4.out,E2,ub,E3⟩
       case measure=>simp [intOf];omega)
  ·have ek:k=6:=by omega
   rw [ek] at hs
   clear ek
   have H1:=hid (And.intro hr0.out (And.intro hr1.out (And.intro hs (And.intro hq.out hw))))
   clear hr0 hr1 hs hw
   go_wp2_with fail
   obtain ⟨ao,co,eo⟩:=H1.out.2.2.1.slice
   obtain ⟨no,hno⟩:∃ n,((told K.passes t 6).map qRow).length=n:=⟨_,rfl⟩
   rw [hno] at eo
   subst eo
   clear hno
   go_loopw [10] (fun i wr=>∃ (k:Nat) (vu:Value),k<=6/\i=.int .i64 k/\Hid (wr.heap[w.heap.size]? = some (.cells #[.slice none 0 0,.slice none 0 0] 122 (0,0)))/\Hid (wr.heap[w.heap.size+1]? = some (.cells #[.slice ao no co,vu] 122 (0,0)))/\Sl wr 55 4 (.slice ao no co) ((told K.passes t 6).map qRow)/\Sl wr 67 4 vu ((told (K.leaves.map quad) t k).map qRow)/\Hid (∀ q,vu.ownBlock=some q->w.heap.size+2<=q/\Value.ownBlock (.slice ao no co)≠some q)/\Below w.heap.size w wr) (fun i _=>6-(intOf i).toNat)
   case atStart=>exact ⟨0,_,by omega,rfl,H1.out.1,H1.out.2.1,H1.out.2.2.1,Sl.nil _ _ _,fun q h=>by simp [Value.ownBlock] at h,H1.out.2.2.2.2⟩
   case round=>
    obtain ⟨k,vu,hk2,rfl,hr0,hr1,hs0,hs,hqu,hw⟩:=hrel
    have H2:=hid (And.intro hr0.out (And.intro hr1.out (And.intro hs0 (And.intro hs hw))))
    by_cases hlt2:k < 6
    ·have hR:=HH.out.1.below hw
     obtain ⟨au,cu,eu⟩:=hs.slice
     clear hr0 hr1 hs0 hs hw
     go_wp2_with fail
     refine (rmLeaf_any y K vt vp vl sl t k _ hR HH.out.2.2.2.2).mono ?_
     rintro e w2 ⟨r,rfl,hix,hw2⟩
     have hw3:=hw2.symm
     subst hw3
     clear hw2
     rcases findLf_ix HH.out.2.2.1 hix with ⟨rfl,hf⟩ | ⟨i,p,rfl,hp,hf,f1,f2⟩
     ·have ET:Hid (told (K.leaves.map quad) t (k+1)=told (K.leaves.map quad) t k):=by unfold Hid;simp [told,find_quad,hf]
      clear hix hf hR
      go_wp2
      first
       | exact ⟨⟨k+1,vu,by omega,by go_num,H2.out.1,H2.out.2.1,H2.out.2.2.1,by rw [ET.out];exact H2.out.2.2.2.1,hqu,H2.out.2.2.2.2⟩,by simp [intOf];omega⟩
       | (
        go_roundw
        case rel=>first | exact ⟨k+1,vu,by omega,by go_num,H2.out.1,H2.out.2.1,H2.out.2.2.1,by rw [ET.out];exact H2.out.2.2.2.1,hqu,H2.out.2.2.2.2⟩ | ((repeat apply Exists.intro);exact ⟨⟨k+1,vu,by omega,by go_num,H2.out.1,H2.out.2.1,H2.out.2.2.1,by rw [ET.out];exact H2.out.2.2.2.1,hqu,H2.out.2.2.2.2⟩,rfl⟩)
        case measure=>simp [intOf];omega)
     ·have ET:Hid (told (K.leaves.map quad) t (k+1)=told (K.leaves.map quad) t k ++ [quad p]):=by unfold Hid;simp [told,find_quad,hf]
      have hle:=told_le (K.leaves.map quad) t k
      obtain ⟨n,en⟩:∃ n,(told (K.leaves.map quad) t k).length=n:=⟨_,rfl⟩
      rw [List.length_map,en] at eu
      subst eu
      obtain ⟨av,cv,ev⟩:=hR.le.slice
      rw [List.length_map] at ev
      obtain ⟨m,em⟩:∃ m,K.leaves.length=m:=⟨_,rfl⟩
      rw [em] at ev
      have im:i < m:=by have:=(List.getElem?_eq_some_iff.1 hp).1;omega
      obtain ⟨g,ea,hx⟩:=(show Sl wr 192 6 (.slice av m cv) _ from ev ▸ hR.le).is_some (by omega)
      clear hx
      subst ea
      have yc:wr.cell? ⟨y,3,none⟩=some (.slice (some ⟨g,0,none⟩) m cv):=by rw [<- ev];exact (hR.cell 3).trans rfl
      have RR:=hid ((show Sl wr 192 6 (.slice (some ⟨g,0,none⟩) m cv) _ from ev ▸ hR.le).row (i:=i) (r:=[.int .i64 p.sp,.int .i64 p.pg,.int .i64 p.fr,.int .i64 p.rt,.int .i64 p.usp,.int .i64 p.upg]) (by rw [List.getElem?_map,hp];rfl))
      have oc:wr.cell? ⟨w.heap.size+1,1,none⟩=some (.slice au n cu):=(cell_of_row wr _ 1 _ _ _ H2.out.2.1).trans rfl
      have mb:(m:Int)<=1000000000000:=by have:=HH.out.2.2.2.2;omega
      have im':(i:Int) < (m:Int):=by omega
      have lo:w.heap.size+1 < wr.heap.size:=(Array.getElem?_eq_some_iff.1 H2.out.2.1).1
      have ly':y < wr.heap.size:=block_lt_of_cell yc
      generalize hRr:(told (K.leaves.map quad) t k).map qRow=R at H2
      have ER:Hid ((told (K.leaves.map quad) t k).map qRow=R):=hRr
      have hRl:Hid (R.length=n):=by unfold Hid;rw [<- hRr,List.length_map,en]
      have nb:n<=6:=by omega
      have FH:=hid (And.intro f1 f2)
      clear hRr hix hf hR ev em hp en hle f1 f2
      go_wp2_with (first
       | (with_reducible (show wpList _ _ _ (⟨_,.load 192 _,_,_,_,none⟩ :: _) _ _);go_must (refine wpList_load_mid rfl 192 _ rfl g (i*6) rfl _ _ RR.out Tryz.underlying192 rfl (by kernel_rfl) ?_))
       | (at_builtin;go_must (refine wpList_append_sl _ rfl _ _ 30 rfl 67 i3 _ 4 32 Tryz.underlying30 hi3 hy0 hy1 hy2 rfl (by decide) (.slice au n cu) R rfl ((H2.out.2.2.2.1.alloc _).alloc _) ⟨wr.heap.size+1,0,none⟩ 1 1 [[.int .i64 t,.int .i64 k,.int .i64 p.fr,.int .i64 p.rt]] rfl rfl (by decide) (by simp) (fun j u h=>cell_news2 wr _ #[.int .i64 t,.int .i64 k,.int .i64 p.fr,.int .i64 p.rt] 67 j u (by simpa using h)) (fun u hu=>by simp at hu;rcases hu with rfl | rfl | rfl | rfl <;> rfl) (by have:=hRl.out;unfold maxLen;omega) (by have:=hRl.out;omega) ?_);intro a4 c4 w4 G4;have hb4:Hid (w4.heap[w.heap.size+1]? = some (.cells #[.slice ao no co,.slice au n cu] 122 (0,0))):=(G4.old (by simp;omega) (fun h=>by have:=(hqu.out _ h).1;omega)).trans ((((Fr.refl (fun _=>False) wr).alloc _).alloc _).block _ lo id |>.trans H2.out.2.1);have hc4:w4.cell? ⟨w.heap.size+1,1,none⟩=some (.slice au n cu):=(cell_of_row w4 _ 1 _ _ _ hb4.out).trans rfl;have hf4:w4.frozen? ⟨w.heap.size+1,1,none⟩=false:=frozen_of_row _ _ _ _ _ hb4.out))
      have F4:Fr (fun q=>Value.ownBlock (.slice au n cu)=some q) wr w4:=G4.fr (((Fr.refl _ wr).alloc _).alloc _) (fun q hq' _=>hq')
      have F5:Fr (fun q=>q=w.heap.size+1) w4 (w4.setCell ⟨w.heap.size+1,1,none⟩ (.slice a4 (R.length+1) c4)):=(Fr.refl (fun q=>q=w.heap.size+1) w4).setCell (p:=⟨w.heap.size+1,1,none⟩) (fun _=>rfl) _
      have ub:Hid (∀ q,Value.ownBlock (.slice a4 (R.length+1) c4)=some q->w.heap.size+2<=q/\Value.ownBlock (.slice ao no co)≠some q):=fun q hq'=>by
       rcases G4.at_ q hq' with h | h
       ·have h2:wr.heap.size+1+1<=q:=by simpa using h
        exact ⟨by omega,fun h3=>by have:=H2.out.2.2.1.lt h3;omega⟩
       ·exact hqu.out q h
      have lw0:=(Array.getElem?_eq_some_iff.1 H2.out.1).1
      have E0:Hid ((w4.setCell ⟨w.heap.size+1,1,none⟩ (.slice a4 (R.length+1) c4)).heap[w.heap.size]? = some (.cells #[.slice none 0 0,.slice none 0 0] 122 (0,0))):=(F5.block _ (by have:=F4.size;omega) (by omega)).trans ((F4.block _ lw0 (fun h=>by have:=(hqu.out _ h).1;omega)).trans H2.out.1)
      have E1:Sl (w4.setCell ⟨w.heap.size+1,1,none⟩ (.slice a4 (R.length+1) c4)) 55 4 (.slice ao no co) ((told K.passes t 6).map qRow):=(H2.out.2.2.1.kept F4 (fun q hq' h=>(hqu.out q h).2 hq')).kept F5 (fun q hq' h=>by have:=H1.out.2.2.2.1 q hq';omega)
      have E2:Sl (w4.setCell ⟨w.heap.size+1,1,none⟩ (.slice a4 (R.length+1) c4)) 67 4 (.slice a4 (R.length+1) c4) ((told (K.leaves.map quad) t (k+1)).map qRow):=by
       have e1:qRow (quad p)=[.int .i64 t,.int .i64 k,.int .i64 p.fr,.int .i64 p.rt]:=by unfold qRow quad;rw [FH.out.1,FH.out.2]
       rw [ET.out,List.map_append,ER.out,List.map_cons,List.map_nil,e1]
       exact G4.sl.kept F5 (fun q hq' h=>by have:=(ub.out q hq').1;omega)
      have E3:Below w.heap.size w (w4.setCell ⟨w.heap.size+1,1,none⟩ (.slice a4 (R.length+1) c4)):=(H2.out.2.2.2.2.trans (F4.to_below H2.out.2.2.2.2.size (fun q h=>by have:=(hqu.out q h).1;omega))).trans (F5.to_below (by have:=F4.size;have:=H2.out.2.2.2.2.size;omega) (fun q h=>by omega))
      first
       | exact ⟨⟨k+1,.slice a4 (R.length+1) c4,by omega,by go_num,E0,heap_setCell_same w4 _ 1 _ _ _ hb4.out,E1,E2,ub,E3⟩,by simp [intOf];omega⟩
       | (
        go_roundw
        case rel=>first | exact ⟨k+1,.slice a4 (R.length+1) c4,by omega,by go_num,E0,heap_setCell_same w4 _ 1 _ _ _ hb4.out,E1,E2,ub,E3⟩ | ((repeat apply Exists.intro);exact ⟨⟨k+1,.slice a4 (R.length+1) c4,by omega,by go_num,E0,heap_setCell_same w4 _ 1 _ _ _ hb4.out,E1,E2,ub,E3⟩,rfl⟩)
        case measure=>simp [intOf];omega)
    ·have ek:k=6:=by omega
     rw [ek] at H2
     clear ek hs0 hs hr0 hr1 hw
     obtain ⟨au,cu,eu⟩:=H2.out.2.2.2.1.slice
     obtain ⟨nu,hnu⟩:∃ n,((told (K.leaves.map quad) t 6).map qRow).length=n:=⟨_,rfl⟩
     rw [hnu] at eu
     subst eu
     clear hnu
     have o0:wr.cell? ⟨w.heap.size+1,0,none⟩=some (.slice ao no co):=(cell_of_row wr _ 0 _ _ _ H2.out.2.1).trans rfl
     have o1:wr.cell? ⟨w.heap.size+1,1,none⟩=some (.slice au nu cu):=(cell_of_row wr _ 1 _ _ _ H2.out.2.1).trans rfl
     have r0:wr.cell? ⟨w.heap.size,0,none⟩=some (.slice none 0 0):=(cell_of_row wr _ 0 _ _ _ H2.out.1).trans rfl
     have r1:wr.cell? ⟨w.heap.size,1,none⟩=some (.slice none 0 0):=(cell_of_row wr _ 1 _ _ _ H2.out.1).trans rfl
     have fr:∀ j,wr.frozen? ⟨w.heap.size,j,none⟩=false:=fun j=>frozen_of_row _ _ _ _ _ H2.out.1
     go_wp2
     have E:=heap_setCell_same _ w.heap.size 1 _ 122 (.slice au nu cu) (heap_setCell_same wr w.heap.size 0 _ 122 (.slice ao no co) H2.out.1)
     have F:Fr (fun q=>q=w.heap.size) wr ((wr.setCell ⟨w.heap.size,0,none⟩ (.slice ao no co)).setCell ⟨w.heap.size,1,none⟩ (.slice au nu cu)):=((Fr.refl (fun q=>q=w.heap.size) wr).setCell (p:=⟨w.heap.size,0,none⟩) (fun _=>rfl) _).setCell (p:=⟨w.heap.size,1,none⟩) (fun _=>rfl) _
     refine bodyPost_ret (v:=.tuple #[.agg #[.slice ao no co,.slice au nu cu],.int .i64 0]) (results_row_tmp Tryz.results112 _ _ w.heap.size 122 _ (0,0) _ _ rfl E Tryz.underlying122 rfl (by kernel_rfl) rfl) rfl ⟨_,_,rfl,H2.out.2.2.1.kept F (fun q hq' h=>by have:=H1.out.2.2.2.1 q hq';omega),H2.out.2.2.2.1.kept F (fun q hq' h=>by have:=(hqu.out q hq').1;omega),H2.out.2.2.2.2.trans (F.to_below H2.out.2.2.2.2.size (fun q h=>by omega)),fun q h=>?_⟩
     rcases h with h | h
     ·have:=H1.out.2.2.2.1 q h;omega
     ·have:=(hqu.out q h).1;omega
open Go.RowKit
structure PT where
 sp:Int
 row:Int
 left:Int
 st:Int
 code:Int
 who:Int
 ws:List Int
 got:Int
 tgt:Int
 pw:List Int
 item:Int
 rt:Int
 frm:Int
 win:Int
 wait:Int
 time:Int
 wl:List Nat
structure PM where
 threads:List PT
 ln:Nat->List Nat
 sp:Int
 passes:List (Int×Int×Int×Int)
 leaves:List Lf
 fr:Nat->Int
 clock:Int
def PM.upd (M:PM) (i:Nat) (f:PT->PT):PM:={ M with threads:=M.threads.modify i f }
def PM.setLn (M:PM) (r:Nat) (l:List Nat):PM:={ M with ln:=fun s=>if s=r then l else M.ln s }
theorem get_modA {α:Type}{l:List α}{i t:Nat}{u:α}{g:α->α}(hu:l[i]? = some u):(l.modify i g)[t]? = if t=i then some (g u) else l[t]?:=by
 rw [List.getElem?_modify]
 by_cases e:i=t
 ·subst e;simp [hu]
 ·rw [if_neg (fun x=>e x.symm)];simp [e]
def overP (code who:Int) (ws:List Int) (got:Int) (p:PT):PT:={ p with st:=1,code:=code,who:=who,ws:=ws,got:=got,tgt:=0,pw:=[],item:=0,rt:=0,frm:=0,win:=0,wait:=0,time:=0 }
end Go.Proofs.YteejjgbeknnmeaaGreatDoor
