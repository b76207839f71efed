import Derived.Test.YteejjgbeknnmeaaGreatDoorG02
import Derived.Deep.QuietTactic
import Derived.BigQuiet
import Derived.BigRegion
import Derived.Deep.DeepCutAuto
import Derived.Deep.RegionHeld3
import Derived.Deep.RegionHeldLaw
set_option maxRecDepth 100000
set_option maxHeartbeats 20000000
namespace Go.Proofs.YteejjgbeknnmeaaGreatDoor
open Go.RowKit
def okT (sp:Int) (p:Int×Int):Prop:=0<=p.1/\p.1<=sp-1/\0<=p.2/\p.2<=3
def okQ (sp h:Int) (p:Int×Int×Int×Int):Prop:=0<=p.1/\p.1<=sp-1/\0<=p.2.1/\p.2.1<=5/\0<=p.2.2.1/\p.2.2.1<=h/\1<=p.2.2.2/\p.2.2.2<=3
def Apart (L:List (Int×Int×Int×Int)):Prop:=∀ (i k:Nat) (p q:Int×Int×Int×Int),k < i->L[i]? = some p->L[k]? = some q->¬ (q.1=p.1/\q.2.1=p.2.1)
def Fits (sp:Int) (T:List (Int×Int)) (Q L:List (Int×Int×Int×Int)):Prop:=
 (1<=sp/\sp<=3)/\(1<=T.length/\T.length<=6)/\(∀ (i:Nat) p,T[i]? = some p->okT sp p)/\(∀ (i:Nat) p,Q[i]? = some p->okQ sp ((T.length:Int)-1) p)/\Apart Q/\(∀ (i:Nat) p,L[i]? = some p->okQ sp 7 p)/\Apart L
theorem inI_true {n lo hi:Int}:inI n lo hi=true↔lo<=n/\n<=hi:=by simp [inI]
theorem inI_false {n lo hi:Int}:inI n lo hi=false↔¬ (lo<=n/\n<=hi):=by simp [inI]
theorem Inl.below1 {w wq:World}{o:Obj}{size:Nat}{v:Value}{rows:List (List Value)}(h:Inl w size v rows) (hs:0 < size) (hb:Below (w.heap.size+1) (w.alloc o) wq):Inl wq size v rows:=
 (h.alloc hs o).below hs (by rw [size_alloc];exact hb)
theorem ne_step {L:List (Int×Int×Int×Int)}{p q:Int×Int×Int×Int}{m:Nat}(h:Hid (∀ (j:Nat) q,j < m->L[j]? = some q->¬ (q.1=p.1/\q.2.1=p.2.1))) (hq:L[m]? = some q) (hn:¬ (q.1=p.1/\q.2.1=p.2.1)) :
  Hid (∀ (j:Nat) q,j < m+1->L[j]? = some q->¬ (q.1=p.1/\q.2.1=p.2.1)):=fun j r hj hr=>by
 by_cases e:j < m
 ·exact h.out j r e hr
 ·have:j=m:=by omega
  subst this
  rw [hq] at hr
  cases hr
  exact hn
theorem ap_step {L:List (Int×Int×Int×Int)}{p:Int×Int×Int×Int}{k:Nat}(h:Hid (∀ (i j:Nat) p q,j < i->i < k->L[i]? = some p->L[j]? = some q->¬ (q.1=p.1/\q.2.1=p.2.1))) (hp:L[k]? = some p)
  (hn:Hid (∀ (j:Nat) q,j < k->L[j]? = some q->¬ (q.1=p.1/\q.2.1=p.2.1))):Hid (∀ (i j:Nat) p q,j < i->i < k+1->L[i]? = some p->L[j]? = some q->¬ (q.1=p.1/\q.2.1=p.2.1)):=fun i j r s hj hi hr hs=>by
 by_cases e:i < k
 ·exact h.out i j r s hj e hr hs
 ·have:i=k:=by omega
  subst this
  rw [hp] at hr
  cases hr
  exact hn.out j s hj hs
theorem cb4 {w wr:World}{a b c d:Value}(hw:Below (w.heap.size+1) (w.alloc (.cells #[a,b,c,d] 32)) wr) :
  wr.cell? ⟨w.heap.size,0,none⟩=some a/\wr.cell? ⟨w.heap.size,1,none⟩=some b/\wr.cell? ⟨w.heap.size,2,none⟩=some c/\wr.cell? ⟨w.heap.size,3,none⟩=some d:=by
 have h:wr.heap[w.heap.size]? = some (.cells #[a,b,c,d] 32 (0,0)):=(hw.block _ (by omega)).trans (heap_alloc_new w _)
 exact ⟨(cell_of_row wr _ 0 _ _ _ h).trans rfl,(cell_of_row wr _ 1 _ _ _ h).trans rfl,(cell_of_row wr _ 2 _ _ _ h).trans rfl,(cell_of_row wr _ 3 _ _ _ h).trans rfl⟩
theorem fits_any (sp:Int) (vT vP vL:Value) (T:List (Int×Int)) (Q L:List (Int×Int×Int×Int)) (w:World) (iT:Inl w 2 vT (T.map tRow)) (iP:Inl w 4 vP (Q.map qRow)) (iL:Inl w 4 vL (L.map qRow)) :
  Calls Tryz.prog 95 #[.agg #[.int .i64 sp,vT,vP,vL]] w fun e w'=>∃ r,e=.returned (.bool r)/\(r=true↔Fits sp T Q L)/\Below w.heap.size w w':=by
 obtain ⟨aT,cT,eT⟩:=iT.slice
 obtain ⟨aP,cP,eP⟩:=iP.slice
 obtain ⟨aL,cL,eL⟩:=iL.slice
 have hmT:T.length<=maxLen:=by obtain ⟨_,_,_,h,_⟩:=iT.form;simpa using h
 have hmP:Q.length<=maxLen:=by obtain ⟨_,_,_,h,_⟩:=iP.form;simpa using h
 have hmL:L.length<=maxLen:=by obtain ⟨_,_,_,h,_⟩:=iL.form;simpa using h
 unfold maxLen at hmT hmP hmL
 rw [List.length_map] at eT eP eL
 subst eT eP eL
 obtain ⟨nT,hnT⟩:∃ n,T.length=n:=⟨_,rfl⟩
 obtain ⟨nP,hnP⟩:∃ n,Q.length=n:=⟨_,rfl⟩
 obtain ⟨nL,hnL⟩:∃ n,L.length=n:=⟨_,rfl⟩
 rw [hnT] at iT hmT ⊢
 rw [hnP] at iP hmP ⊢
 rw [hnL] at iL hmL ⊢
 have HI:=hid (And.intro iT (And.intro iP iL))
 have HN:=hid (And.intro hnT (And.intro hnP hnL))
 clear iT iP iL hnT hnP hnL
 have fin:Hid (∀ (w':World),Below w.heap.size w w'->¬ Fits sp T Q L->∃ r,Ending.returned (.bool false)=.returned (.bool r)/\(r=true↔Fits sp T Q L)/\Below w.heap.size w w'):=
  fun w' hb hn=>⟨false,rfl,⟨fun h=>by simp at h,fun h=>absurd h hn⟩,hb⟩
 have fitQ:Hid (∀ (h:Fits sp T Q L) (k:Nat) p,Q[k]? = some p->okQ sp ((nT:Int)-1) p):=fun h k p hp=>by have h2:=h.2.2.2.1 k p hp;rwa [HN.out.1] at h2
 have hb0:Hid (Below w.heap.size w (w.alloc (.cells #[.int .i64 sp,.slice aT nT cT,.slice aP nP cP,.slice aL nL cL] 32))):=(Below.refl _ w).alloc (Nat.le_refl _) _
 cases ea:inI sp 1 3 with
 | false=>
  go_enter Tryz.func95,Tryz.ntmps95
  go_wp2_with (go_at_call 106;refine (in_any _ _ _ _).mono ?_;rintro e w1 ⟨rfl,rfl⟩)
  go_ret
  exact fin.out _ hb0.out (fun h=>inI_false.1 ea h.1)
 | true=>
  cases eb:inI (nT:Int) 1 6 with
  | false=>
   go_enter Tryz.func95,Tryz.ntmps95
   go_wp2_with (go_at_call 106;refine (in_any _ _ _ _).mono ?_;rintro e w1 ⟨rfl,rfl⟩)
   go_ret
   exact fin.out _ hb0.out (fun h=>inI_false.1 eb (by have:=h.2.1;have:=HN.out.1;omega))
  | true=>
   have s1:1<=sp:=(inI_true.1 ea).1
   have s2:sp<=3:=(inI_true.1 ea).2
   have t1:1<=(nT:Int):=(inI_true.1 eb).1
   have t2:(nT:Int)<=6:=(inI_true.1 eb).2
   go_enter Tryz.func95,Tryz.ntmps95
   go_wp2_with (go_at_call 106;refine (in_any _ _ _ _).mono ?_;rintro e w1 ⟨rfl,rfl⟩)
   clear ea eb
   go_loopw [5] (fun i wr=>∃ k:Nat,k<=nT/\i=.int .i64 k/\Hid (∀ (i:Nat) p,i < k->T[i]? = some p->okT sp p)/\Below (w.heap.size+1) (w.alloc (.cells #[.int .i64 sp,.slice aT nT cT,.slice aP nP cP,.slice aL nL cL] 32)) wr) (fun i _=>nT-(intOf i).toNat)
   case atStart=>exact ⟨0,Nat.zero_le _,rfl,fun i p h=>absurd h (by omega),Below.refl _ _⟩
   case round=>
    obtain ⟨k,hk,rfl,hok,hw⟩:=hrel
    obtain ⟨c0,c1,c2,c3⟩:=cb4 hw
    have hwb:Hid (Below w.heap.size w wr):=hb0.out.trans (hw.mono (by omega))
    have hw':Below (w.alloc (.cells #[.int .i64 sp,.slice aT nT cT,.slice aP nP cP,.slice aL nL cL] 32)).heap.size (w.alloc (.cells #[.int .i64 sp,.slice aT nT cT,.slice aP nP cP,.slice aL nL cL] 32)) wr:=by rw [size_alloc];exact hw
    have lw:w.heap.size < wr.heap.size:=Nat.lt_of_lt_of_le (by simp) hw.size
    by_cases hlt:k < nT
    ·obtain ⟨p,hp⟩:∃ p,T[k]? = some p:=⟨_,List.getElem?_eq_getElem (by have:=HN.out;omega)⟩
     obtain ⟨b1,o1,e1,r1⟩:=((HI.out.1.alloc (by decide) _).below (by decide) hw').row (k:=k) (r:=[.int .i64 p.1,.int .i64 p.2]) (by rw [List.getElem?_map,hp];rfl)
     have g0:=r1 0 (.int .i64 p.1) rfl
     have g1:=r1 1 (.int .i64 p.2) rfl
     simp only [Nat.add_zero] at g0
     subst e1
     have HW:=hid hw
     have HP:=hid hp
     clear hw hw' r1 hp
     cases ea:inI p.1 0 (sp-1) with
     | false=>
      go_wp2_with fail
      go_quiet ((go_at_call 106;exact Calls.quiet_of_same (in_any _ _ _ _)))
      go_wp2_with (go_at_call 106;refine (in_any _ _ _ _).mono ?_;rintro e w1 ⟨rfl,rfl⟩)
      go_ret
      exact fin.out _ (below_drewN hwb.out _) (fun h=>inI_false.1 ea (by have:=h.2.2.1 k p HP.out;exact ⟨this.1,this.2.1⟩))
     | true=>
      cases eb:inI p.2 0 3 with
      | false=>
       go_wp2_with fail
       go_quiet ((go_at_call 106;exact Calls.quiet_of_same (in_any _ _ _ _)))
       go_wp2_with (go_at_call 106;refine (in_any _ _ _ _).mono ?_;rintro e w1 ⟨rfl,rfl⟩)
       go_ret
       exact fin.out _ (below_drewN hwb.out _) (fun h=>inI_false.1 eb (by have:=h.2.2.1 k p HP.out;exact this.2.2))
      | true=>
       have OK:Hid (Hid (∀ (i:Nat) p,i < k+1->T[i]? = some p->okT sp p)):=fun i q hi hq=>by
        by_cases h:i < k
        ·exact hok.out i q h hq
        ·have:i=k:=by omega
         subst this
         rw [HP.out] at hq
         cases hq
         have h1:=inI_true.1 ea
         have h2:=inI_true.1 eb
         exact ⟨h1.1,h1.2,h2.1,h2.2⟩
       go_wp2_with fail
       go_quiet ((go_at_call 106;exact Calls.quiet_of_same (in_any _ _ _ _)))
       go_wp2_with (go_at_call 106;refine (in_any _ _ _ _).mono ?_;rintro e w1 ⟨rfl,rfl⟩)
       first
        | exact ⟨⟨k+1,by omega,by go_num,OK.out,below_drewN HW.out _⟩,by simp [intOf];omega⟩
        | (
         go_roundw
         case rel=>first | exact ⟨k+1,by omega,by go_num,OK.out,below_drewN HW.out _⟩ | ((repeat apply Exists.intro);exact ⟨⟨k+1,by omega,by go_num,OK.out,below_drewN HW.out _⟩,rfl⟩)
         case measure=>simp [intOf];omega)
    ·have OKT:Hid (∀ (i:Nat) p,T[i]? = some p->okT sp p):=fun i p hp=>hok.out i p (by have:=(List.getElem?_eq_some_iff.1 hp).1;have:=HN.out.1;omega) hp
     have HW:=hid hw
     clear hw hw' hok
     go_wp2_with fail
     clear c0 c1 c2 c3 lw hk hlt hwb
     go_loopw [6] (fun i wr=>∃ k:Nat,k<=nP/\i=.int .i64 k/\Hid (∀ (i:Nat) p,i < k->Q[i]? = some p->okQ sp ((nT:Int)-1) p)/\Hid (∀ (i j:Nat) p q,j < i->i < k->Q[i]? = some p->Q[j]? = some q->¬ (q.1=p.1/\q.2.1=p.2.1))/\Below (w.heap.size+1) (w.alloc (.cells #[.int .i64 sp,.slice aT nT cT,.slice aP nP cP,.slice aL nL cL] 32)) wr) (fun i _=>nP-(intOf i).toNat)
     case atStart=>exact ⟨0,Nat.zero_le _,rfl,fun i p h=>absurd h (by omega),fun i j p q _ h=>absurd h (by omega),HW.out⟩
     case round=>
      obtain ⟨k,hk,rfl,hok,hap,hw⟩:=hrel
      obtain ⟨c0,c1,c2,c3⟩:=cb4 hw
      have hwb:Hid (Below w.heap.size w wr):=hb0.out.trans (hw.mono (by omega))
      have hw':Below (w.alloc (.cells #[.int .i64 sp,.slice aT nT cT,.slice aP nP cP,.slice aL nL cL] 32)).heap.size (w.alloc (.cells #[.int .i64 sp,.slice aT nT cT,.slice aP nP cP,.slice aL nL cL] 32)) wr:=by rw [size_alloc];exact hw
      have lw:w.heap.size < wr.heap.size:=Nat.lt_of_lt_of_le (by simp) hw.size
      by_cases hlt:k < nP
      ·obtain ⟨p,hp⟩:∃ p,Q[k]? = some p:=⟨_,List.getElem?_eq_getElem (by have:=HN.out;omega)⟩
       obtain ⟨b1,o1,ea,r1⟩:=((HI.out.2.1.alloc (by decide) _).below (by decide) hw').row (k:=k) (r:=[.int .i64 p.1,.int .i64 p.2.1,.int .i64 p.2.2.1,.int .i64 p.2.2.2]) (by rw [List.getElem?_map,hp];rfl)
       have R1:=hid r1
       subst ea
       have HW:=hid hw
       have HP:=hid hp
       clear hw hw' r1 hp
       cases e0:inI p.1 0 (sp-1) with
       | false=>
        go_wp2_with (first | (with_reducible (show wpList _ _ _ (⟨_,.load 55 _,_,_,_,none⟩ :: _) _ _);go_must (refine wpList_load_mid rfl 55 _ rfl b1 (o1+k*4) rfl _ _ R1.out Tryz.underlying55 rfl (by kernel_rfl) ?_)) | (go_at_call 106;refine (in_any _ _ _ _).mono ?_;rintro e w1 ⟨rfl,rfl⟩))
        go_ret
        exact fin.out _ (hwb.out.alloc hwb.out.size _) (fun h=>inI_false.1 e0 (by have:=fitQ.out h k p HP.out;exact ⟨this.1,this.2.1⟩))
       | true=>
        cases e1:inI p.2.1 0 5 with
        | false=>
         go_wp2_with (first | (with_reducible (show wpList _ _ _ (⟨_,.load 55 _,_,_,_,none⟩ :: _) _ _);go_must (refine wpList_load_mid rfl 55 _ rfl b1 (o1+k*4) rfl _ _ R1.out Tryz.underlying55 rfl (by kernel_rfl) ?_)) | (go_at_call 106;refine (in_any _ _ _ _).mono ?_;rintro e w1 ⟨rfl,rfl⟩))
         go_ret
         exact fin.out _ (hwb.out.alloc hwb.out.size _) (fun h=>inI_false.1 e1 (by have:=fitQ.out h k p HP.out;exact ⟨this.2.2.1,this.2.2.2.1⟩))
        | true=>
         cases e2:inI p.2.2.1 0 ((nT:Int)-1) with
         | false=>
          go_wp2_with (first | (with_reducible (show wpList _ _ _ (⟨_,.load 55 _,_,_,_,none⟩ :: _) _ _);go_must (refine wpList_load_mid rfl 55 _ rfl b1 (o1+k*4) rfl _ _ R1.out Tryz.underlying55 rfl (by kernel_rfl) ?_)) | (go_at_call 106;refine (in_any _ _ _ _).mono ?_;rintro e w1 ⟨rfl,rfl⟩))
          go_ret
          exact fin.out _ (hwb.out.alloc hwb.out.size _) (fun h=>inI_false.1 e2 (by have:=fitQ.out h k p HP.out;exact ⟨this.2.2.2.2.1,this.2.2.2.2.2.1⟩))
         | true=>
          cases e3:inI p.2.2.2 1 3 with
          | false=>
           go_wp2_with (first | (with_reducible (show wpList _ _ _ (⟨_,.load 55 _,_,_,_,none⟩ :: _) _ _);go_must (refine wpList_load_mid rfl 55 _ rfl b1 (o1+k*4) rfl _ _ R1.out Tryz.underlying55 rfl (by kernel_rfl) ?_)) | (go_at_call 106;refine (in_any _ _ _ _).mono ?_;rintro e w1 ⟨rfl,rfl⟩))
           go_ret
           exact fin.out _ (hwb.out.alloc hwb.out.size _) (fun h=>inI_false.1 e3 (by have:=fitQ.out h k p HP.out;exact ⟨this.2.2.2.2.2.2.1,this.2.2.2.2.2.2.2⟩))
          | true=>
           have OK:Hid (Hid (∀ (i:Nat) p,i < k+1->Q[i]? = some p->okQ sp ((nT:Int)-1) p)):=fun i q hi hq=>by
            by_cases h:i < k
            ·exact hok.out i q h hq
            ·have:i=k:=by omega
             subst this
             rw [HP.out] at hq
             cases hq
             have h0:=inI_true.1 e0
             have h1:=inI_true.1 e1
             have h2:=inI_true.1 e2
             have h3:=inI_true.1 e3
             exact ⟨h0.1,h0.2,h1.1,h1.2,h2.1,h2.2,h3.1,h3.2⟩
           go_wp2_with (first | (with_reducible (show wpList _ _ _ (⟨_,.load 55 _,_,_,_,none⟩ :: _) _ _);go_must (refine wpList_load_mid rfl 55 _ rfl b1 (o1+k*4) rfl _ _ R1.out Tryz.underlying55 rfl (by kernel_rfl) ?_)) | (go_at_call 106;refine (in_any _ _ _ _).mono ?_;rintro e w1 ⟨rfl,rfl⟩))
           clear e0 e1 e2 e3
           go_loopw [10] (fun i wq=>∃ m:Nat,m<=k/\i=.int .i64 m/\Hid (∀ (j:Nat) q,j < m->Q[j]? = some q->¬ (q.1=p.1/\q.2.1=p.2.1))/\Below (wr.heap.size+1) (wr.alloc (.cells #[.int .i64 p.1,.int .i64 p.2.1,.int .i64 p.2.2.1,.int .i64 p.2.2.2] 55)) wq) (fun i _=>k-(intOf i).toNat)
           case atStart=>exact ⟨0,Nat.zero_le _,rfl,fun j q h=>absurd h (by omega),Below.refl _ _⟩
           case round=>
            rename World=>wq
            obtain ⟨m,hm,rfl,hne,hv⟩:=hrel
            have hv':Below (wr.alloc (.cells #[.int .i64 p.1,.int .i64 p.2.1,.int .i64 p.2.2.1,.int .i64 p.2.2.2] 55)).heap.size (wr.alloc (.cells #[.int .i64 p.1,.int .i64 p.2.1,.int .i64 p.2.2.1,.int .i64 p.2.2.2] 55)) wq:=by rw [size_alloc];exact hv
            have hWq:=(HW.out.alloc (by omega) (.cells #[.int .i64 p.1,.int .i64 p.2.1,.int .i64 p.2.2.1,.int .i64 p.2.2.2] 55)).trans (hv.mono (by omega))
            obtain ⟨c0',c1',c2',c3'⟩:=cb4 hWq
            have hpb:wq.heap[wr.heap.size]? = some (.cells #[.int .i64 p.1,.int .i64 p.2.1,.int .i64 p.2.2.1,.int .i64 p.2.2.2] 55 (0,0)):=(hv.block _ (by omega)).trans (heap_alloc_new wr _)
            have q0:wq.cell? ⟨wr.heap.size,0,none⟩=some (.int .i64 p.1):=(cell_of_row wq _ 0 _ _ _ hpb).trans rfl
            have q1:wq.cell? ⟨wr.heap.size,1,none⟩=some (.int .i64 p.2.1):=(cell_of_row wq _ 1 _ _ _ hpb).trans rfl
            have HV:=hid hv
            have HWQ:=hid hWq
            clear hv hv' hpb hWq
            by_cases hmk:m < k
            ·obtain ⟨q,hq⟩:∃ q,Q[m]? = some q:=⟨_,List.getElem?_eq_getElem (by have:=HN.out;omega)⟩
             obtain ⟨b2,o2,ee,r2⟩:=(HI.out.2.1.below1 (by decide) HWQ.out).row (k:=m) (r:=[.int .i64 q.1,.int .i64 q.2.1,.int .i64 q.2.2.1,.int .i64 q.2.2.2]) (by rw [List.getElem?_map,hq];rfl)
             have g0:=r2 0 (.int .i64 q.1) rfl
             have g1:=r2 1 (.int .i64 q.2.1) rfl
             simp only [Nat.add_zero] at g0
             simp only [Option.some.injEq,Addr.mk.injEq,and_true] at ee
             obtain ⟨rfl,rfl⟩:=ee
             have HQ:=hid hq
             clear r2 hq
             by_cases f0:q.1=p.1
             ·have d0:(q.1 == p.1)=true:=by simp [f0]
              by_cases f1:q.2.1=p.2.1
              ·have d1:(q.2.1 == p.2.1)=true:=by simp [f1]
               have F:=hid (And.intro f0 f1)
               clear f0 f1
               go_wp2_with fail
               go_quiet (fail)
               go_wp2
               go_ret
               exact fin.out _ (below_drewN (hb0.out.trans (HWQ.out.mono (by omega))) _) (fun h=>(fun (h:Fits sp T Q L)=>h.2.2.2.2.1) h k m p q hmk HP.out HQ.out F.out)
              ·have d1:(q.2.1 == p.2.1)=false:=by simp [f1]
               have F:=hid f1
               clear f0 f1
               go_wp2_with fail
               go_quiet (fail)
               go_wp2
               first
                | exact ⟨⟨m+1,by omega,by go_num,ne_step hne HQ.out (fun h=>F.out h.2),below_drewN HV.out _⟩,by simp [intOf];omega⟩
                | (
                 go_roundw
                 case rel=>first | exact ⟨m+1,by omega,by go_num,ne_step hne HQ.out (fun h=>F.out h.2),below_drewN HV.out _⟩ | ((repeat apply Exists.intro);exact ⟨⟨m+1,by omega,by go_num,ne_step hne HQ.out (fun h=>F.out h.2),below_drewN HV.out _⟩,rfl⟩)
                 case measure=>simp [intOf];omega)
             ·have d0:(q.1 == p.1)=false:=by simp [f0]
              have F:=hid f0
              clear f0
              go_wp2_with fail
              go_quiet (fail)
              go_wp2
              first
               | exact ⟨⟨m+1,by omega,by go_num,ne_step hne HQ.out (fun h=>F.out h.1),below_drewN HV.out _⟩,by simp [intOf];omega⟩
               | (
                go_roundw
                case rel=>first | exact ⟨m+1,by omega,by go_num,ne_step hne HQ.out (fun h=>F.out h.1),below_drewN HV.out _⟩ | ((repeat apply Exists.intro);exact ⟨⟨m+1,by omega,by go_num,ne_step hne HQ.out (fun h=>F.out h.1),below_drewN HV.out _⟩,rfl⟩)
                case measure=>simp [intOf];omega)
            ·have ND:Hid (∀ (j:Nat) q,j < k->Q[j]? = some q->¬ (q.1=p.1/\q.2.1=p.2.1)):=fun j q hj=>hne.out j q (by omega)
             clear hne
             go_wp2
             first
              | exact ⟨⟨k+1,by omega,by go_num,OK.out,ap_step hap HP.out ND,HWQ.out⟩,by simp [intOf];omega⟩
              | (
               go_roundw
               case rel=>first | exact ⟨k+1,by omega,by go_num,OK.out,ap_step hap HP.out ND,HWQ.out⟩ | ((repeat apply Exists.intro);exact ⟨⟨k+1,by omega,by go_num,OK.out,ap_step hap HP.out ND,HWQ.out⟩,rfl⟩)
               case measure=>simp [intOf];omega)
      ·have OKQ:Hid (∀ (i:Nat) p,Q[i]? = some p->okQ sp ((nT:Int)-1) p):=fun i p hp=>hok.out i p (by have:=(List.getElem?_eq_some_iff.1 hp).1;have:=HN.out;omega) hp
       have APQ:Hid (Apart Q):=fun i j p q hj hp hq=>hap.out i j p q hj (by have:=(List.getElem?_eq_some_iff.1 hp).1;have:=HN.out;omega) hp hq
       have HW:=hid hw
       clear hw hw' hok hap
       go_wp2_with fail
       clear c0 c1 c2 c3 lw hk hlt hwb
       go_loopw [11] (fun i wr=>∃ k:Nat,k<=nL/\i=.int .i64 k/\Hid (∀ (i:Nat) p,i < k->L[i]? = some p->okQ sp 7 p)/\Hid (∀ (i j:Nat) p q,j < i->i < k->L[i]? = some p->L[j]? = some q->¬ (q.1=p.1/\q.2.1=p.2.1))/\Below (w.heap.size+1) (w.alloc (.cells #[.int .i64 sp,.slice aT nT cT,.slice aP nP cP,.slice aL nL cL] 32)) wr) (fun i _=>nL-(intOf i).toNat)
       case atStart=>exact ⟨0,Nat.zero_le _,rfl,fun i p h=>absurd h (by omega),fun i j p q _ h=>absurd h (by omega),HW.out⟩
       case round=>
        obtain ⟨k,hk,rfl,hok,hap,hw⟩:=hrel
        obtain ⟨c0,c1,c2,c3⟩:=cb4 hw
        have hwb:Hid (Below w.heap.size w wr):=hb0.out.trans (hw.mono (by omega))
        have hw':Below (w.alloc (.cells #[.int .i64 sp,.slice aT nT cT,.slice aP nP cP,.slice aL nL cL] 32)).heap.size (w.alloc (.cells #[.int .i64 sp,.slice aT nT cT,.slice aP nP cP,.slice aL nL cL] 32)) wr:=by rw [size_alloc];exact hw
        have lw:w.heap.size < wr.heap.size:=Nat.lt_of_lt_of_le (by simp) hw.size
        by_cases hlt:k < nL
        ·obtain ⟨p,hp⟩:∃ p,L[k]? = some p:=⟨_,List.getElem?_eq_getElem (by have:=HN.out;omega)⟩
         obtain ⟨b1,o1,ea,r1⟩:=((HI.out.2.2.alloc (by decide) _).below (by decide) hw').row (k:=k) (r:=[.int .i64 p.1,.int .i64 p.2.1,.int .i64 p.2.2.1,.int .i64 p.2.2.2]) (by rw [List.getElem?_map,hp];rfl)
         have R1:=hid r1
         subst ea
         have HW:=hid hw
         have HP:=hid hp
         clear hw hw' r1 hp
         cases e0:inI p.1 0 (sp-1) with
         | false=>
          go_wp2_with (first | (with_reducible (show wpList _ _ _ (⟨_,.load 67 _,_,_,_,none⟩ :: _) _ _);go_must (refine wpList_load_mid rfl 67 _ rfl b1 (o1+k*4) rfl _ _ R1.out Tryz.underlying67 rfl (by kernel_rfl) ?_)) | (go_at_call 106;refine (in_any _ _ _ _).mono ?_;rintro e w1 ⟨rfl,rfl⟩))
          go_ret
          exact fin.out _ (hwb.out.alloc hwb.out.size _) (fun h=>inI_false.1 e0 (by have:=(fun (h:Fits sp T Q L)=>h.2.2.2.2.2.1) h k p HP.out;exact ⟨this.1,this.2.1⟩))
         | true=>
          cases e1:inI p.2.1 0 5 with
          | false=>
           go_wp2_with (first | (with_reducible (show wpList _ _ _ (⟨_,.load 67 _,_,_,_,none⟩ :: _) _ _);go_must (refine wpList_load_mid rfl 67 _ rfl b1 (o1+k*4) rfl _ _ R1.out Tryz.underlying67 rfl (by kernel_rfl) ?_)) | (go_at_call 106;refine (in_any _ _ _ _).mono ?_;rintro e w1 ⟨rfl,rfl⟩))
           go_ret
           exact fin.out _ (hwb.out.alloc hwb.out.size _) (fun h=>inI_false.1 e1 (by have:=(fun (h:Fits sp T Q L)=>h.2.2.2.2.2.1) h k p HP.out;exact ⟨this.2.2.1,this.2.2.2.1⟩))
          | true=>
           cases e2:inI p.2.2.1 0 7 with
           | false=>
            go_wp2_with (first | (with_reducible (show wpList _ _ _ (⟨_,.load 67 _,_,_,_,none⟩ :: _) _ _);go_must (refine wpList_load_mid rfl 67 _ rfl b1 (o1+k*4) rfl _ _ R1.out Tryz.underlying67 rfl (by kernel_rfl) ?_)) | (go_at_call 106;refine (in_any _ _ _ _).mono ?_;rintro e w1 ⟨rfl,rfl⟩))
            go_ret
            exact fin.out _ (hwb.out.alloc hwb.out.size _) (fun h=>inI_false.1 e2 (by have:=(fun (h:Fits sp T Q L)=>h.2.2.2.2.2.1) h k p HP.out;exact ⟨this.2.2.2.2.1,this.2.2.2.2.2.1⟩))
           | true=>
            cases e3:inI p.2.2.2 1 3 with
            | false=>
             go_wp2_with (first | (with_reducible (show wpList _ _ _ (⟨_,.load 67 _,_,_,_,none⟩ :: _) _ _);go_must (refine wpList_load_mid rfl 67 _ rfl b1 (o1+k*4) rfl _ _ R1.out Tryz.underlying67 rfl (by kernel_rfl) ?_)) | (go_at_call 106;refine (in_any _ _ _ _).mono ?_;rintro e w1 ⟨rfl,rfl⟩))
             go_ret
             exact fin.out _ (hwb.out.alloc hwb.out.size _) (fun h=>inI_false.1 e3 (by have:=(fun (h:Fits sp T Q L)=>h.2.2.2.2.2.1) h k p HP.out;exact ⟨this.2.2.2.2.2.2.1,this.2.2.2.2.2.2.2⟩))
            | true=>
             have OK:Hid (Hid (∀ (i:Nat) p,i < k+1->L[i]? = some p->okQ sp 7 p)):=fun i q hi hq=>by
              by_cases h:i < k
              ·exact hok.out i q h hq
              ·have:i=k:=by omega
               subst this
               rw [HP.out] at hq
               cases hq
               have h0:=inI_true.1 e0
               have h1:=inI_true.1 e1
               have h2:=inI_true.1 e2
               have h3:=inI_true.1 e3
               exact ⟨h0.1,h0.2,h1.1,h1.2,h2.1,h2.2,h3.1,h3.2⟩
             go_wp2_with (first | (with_reducible (show wpList _ _ _ (⟨_,.load 67 _,_,_,_,none⟩ :: _) _ _);go_must (refine wpList_load_mid rfl 67 _ rfl b1 (o1+k*4) rfl _ _ R1.out Tryz.underlying67 rfl (by kernel_rfl) ?_)) | (go_at_call 106;refine (in_any _ _ _ _).mono ?_;rintro e w1 ⟨rfl,rfl⟩))
             clear e0 e1 e2 e3
             go_loopw [15] (fun i wq=>∃ m:Nat,m<=k/\i=.int .i64 m/\Hid (∀ (j:Nat) q,j < m->L[j]? = some q->¬ (q.1=p.1/\q.2.1=p.2.1))/\Below (wr.heap.size+1) (wr.alloc (.cells #[.int .i64 p.1,.int .i64 p.2.1,.int .i64 p.2.2.1,.int .i64 p.2.2.2] 67)) wq) (fun i _=>k-(intOf i).toNat)
             case atStart=>exact ⟨0,Nat.zero_le _,rfl,fun j q h=>absurd h (by omega),Below.refl _ _⟩
             case round=>
              rename World=>wq
              obtain ⟨m,hm,rfl,hne,hv⟩:=hrel
              have hv':Below (wr.alloc (.cells #[.int .i64 p.1,.int .i64 p.2.1,.int .i64 p.2.2.1,.int .i64 p.2.2.2] 67)).heap.size (wr.alloc (.cells #[.int .i64 p.1,.int .i64 p.2.1,.int .i64 p.2.2.1,.int .i64 p.2.2.2] 67)) wq:=by rw [size_alloc];exact hv
              have hWq:=(HW.out.alloc (by omega) (.cells #[.int .i64 p.1,.int .i64 p.2.1,.int .i64 p.2.2.1,.int .i64 p.2.2.2] 67)).trans (hv.mono (by omega))
              obtain ⟨c0',c1',c2',c3'⟩:=cb4 hWq
              have hpb:wq.heap[wr.heap.size]? = some (.cells #[.int .i64 p.1,.int .i64 p.2.1,.int .i64 p.2.2.1,.int .i64 p.2.2.2] 67 (0,0)):=(hv.block _ (by omega)).trans (heap_alloc_new wr _)
              have q0:wq.cell? ⟨wr.heap.size,0,none⟩=some (.int .i64 p.1):=(cell_of_row wq _ 0 _ _ _ hpb).trans rfl
              have q1:wq.cell? ⟨wr.heap.size,1,none⟩=some (.int .i64 p.2.1):=(cell_of_row wq _ 1 _ _ _ hpb).trans rfl
              have HV:=hid hv
              have HWQ:=hid hWq
              clear hv hv' hpb hWq
              by_cases hmk:m < k
              ·obtain ⟨q,hq⟩:∃ q,L[m]? = some q:=⟨_,List.getElem?_eq_getElem (by have:=HN.out;omega)⟩
               obtain ⟨b2,o2,ee,r2⟩:=(HI.out.2.2.below1 (by decide) HWQ.out).row (k:=m) (r:=[.int .i64 q.1,.int .i64 q.2.1,.int .i64 q.2.2.1,.int .i64 q.2.2.2]) (by rw [List.getElem?_map,hq];rfl)
               have g0:=r2 0 (.int .i64 q.1) rfl
               have g1:=r2 1 (.int .i64 q.2.1) rfl
               simp only [Nat.add_zero] at g0
               simp only [Option.some.injEq,Addr.mk.injEq,and_true] at ee
               obtain ⟨rfl,rfl⟩:=ee
               have HQ:=hid hq
               clear r2 hq
               by_cases f0:q.1=p.1
               ·have d0:(q.1 == p.1)=true:=by simp [f0]
                by_cases f1:q.2.1=p.2.1
                ·have d1:(q.2.1 == p.2.1)=true:=by simp [f1]
                 have F:=hid (And.intro f0 f1)
                 clear f0 f1
                 go_wp2_with fail
                 go_quiet (fail)
                 go_wp2
                 go_ret
                 exact fin.out _ (below_drewN (hb0.out.trans (HWQ.out.mono (by omega))) _) (fun h=>(fun (h:Fits sp T Q L)=>h.2.2.2.2.2.2) h k m p q hmk HP.out HQ.out F.out)
                ·have d1:(q.2.1 == p.2.1)=false:=by simp [f1]
                 have F:=hid f1
                 clear f0 f1
                 go_wp2_with fail
                 go_quiet (fail)
                 go_wp2
                 first
                  | exact ⟨⟨m+1,by omega,by go_num,ne_step hne HQ.out (fun h=>F.out h.2),below_drewN HV.out _⟩,by simp [intOf];omega⟩
                  | (
                   go_roundw
                   case rel=>first | exact ⟨m+1,by omega,by go_num,ne_step hne HQ.out (fun h=>F.out h.2),below_drewN HV.out _⟩ | ((repeat apply Exists.intro);exact ⟨⟨m+1,by omega,by go_num,ne_step hne HQ.out (fun h=>F.out h.2),below_drewN HV.out _⟩,rfl⟩)
                   case measure=>simp [intOf];omega)
               ·have d0:(q.1 == p.1)=false:=by simp [f0]
                have F:=hid f0
                clear f0
                go_wp2_with fail
                go_quiet (fail)
                go_wp2
                first
                 | exact ⟨⟨m+1,by omega,by go_num,ne_step hne HQ.out (fun h=>F.out h.1),below_drewN HV.out _⟩,by simp [intOf];omega⟩
                 | (
                  go_roundw
                  case rel=>first | exact ⟨m+1,by omega,by go_num,ne_step hne HQ.out (fun h=>F.out h.1),below_drewN HV.out _⟩ | ((repeat apply Exists.intro);exact ⟨⟨m+1,by omega,by go_num,ne_step hne HQ.out (fun h=>F.out h.1),below_drewN HV.out _⟩,rfl⟩)
                  case measure=>simp [intOf];omega)
              ·have ND:Hid (∀ (j:Nat) q,j < k->L[j]? = some q->¬ (q.1=p.1/\q.2.1=p.2.1)):=fun j q hj=>hne.out j q (by omega)
               clear hne
               go_wp2
               first
                | exact ⟨⟨k+1,by omega,by go_num,OK.out,ap_step hap HP.out ND,HWQ.out⟩,by simp [intOf];omega⟩
                | (
                 go_roundw
                 case rel=>first | exact ⟨k+1,by omega,by go_num,OK.out,ap_step hap HP.out ND,HWQ.out⟩ | ((repeat apply Exists.intro);exact ⟨⟨k+1,by omega,by go_num,OK.out,ap_step hap HP.out ND,HWQ.out⟩,rfl⟩)
                 case measure=>simp [intOf];omega)
        ·have OKL:Hid (∀ (i:Nat) p,L[i]? = some p->okQ sp 7 p):=fun i p hp=>hok.out i p (by have:=(List.getElem?_eq_some_iff.1 hp).1;have:=HN.out;omega) hp
         have APL:Hid (Apart L):=fun i j p q hj hp hq=>hap.out i j p q hj (by have:=(List.getElem?_eq_some_iff.1 hp).1;have:=HN.out;omega) hp hq
         have HW:=hid hw
         clear hw hw' hok hap
         go_wp2
         go_ret
         exact ⟨true,rfl,⟨fun _=>⟨⟨s1,s2⟩,⟨by have:=HN.out;omega,by have:=HN.out;omega⟩,OKT.out,by rw [HN.out.1];exact OKQ.out,APQ.out,OKL.out,APL.out⟩,fun _=>rfl⟩,hwb.out⟩
open Go.RowKit
def rtRow (t:Int×Int×Int×Int):List Value:=[.int .i64 t.1,.int .i64 t.2.1,.int .i64 1,.int .i64 t.2.2.1,.int .i64 t.2.2.2,.int .i64 0,.slice none 0 0,.int .i64 0,.int .i64 0,.int .i64 0,.int .i64 0,.int .i64 0,.bool false,.int .i64 0,.int .i64 0,.int .i64 (-1),.int .i64 0,.int .i64 (-1),.slice none 0 0,.int .i64 (-1)]
def lRow (p:Int×Int×Int×Int):List Value:=[.int .i64 p.1,.int .i64 p.2.1,.int .i64 p.2.2.1,.int .i64 p.2.2.2,.int .i64 (-1),.int .i64 (-1)]
def kc (vt vp vl:Value) (sp:Int) (fr:Nat->Int) (cl la:Int):Array Value:=#[vt,.int .i64 sp,vp,vl,.int .i64 (fr 0),.int .i64 (fr 1),.int .i64 (fr 2),.int .i64 (fr 3),.int .i64 (fr 4),.int .i64 (fr 5),.int .i64 (fr 6),.int .i64 (fr 7),.int .i64 (fr 8),.int .i64 (fr 9),.int .i64 (fr 10),.int .i64 (fr 11),.int .i64 (fr 12),.int .i64 (fr 13),.int .i64 (fr 14),.int .i64 (fr 15),.int .i64 (fr 16),.int .i64 (fr 17),.int .i64 (fr 18),.int .i64 (fr 19),.int .i64 (fr 20),.int .i64 (fr 21),.int .i64 (fr 22),.int .i64 (fr 23),.int .i64 (fr 24),.int .i64 (fr 25),.int .i64 (fr 26),.int .i64 (fr 27),.int .i64 (fr 28),.int .i64 (fr 29),.int .i64 (fr 30),.int .i64 (fr 31),.int .i64 cl,.int .i64 (-1),.int .i64 la]
def fr0:Nat->Int:=fun _=>0
structure RK where
 threads:List (Int×Int×Int×Int)
 sp:Int
 passes:List (Int×Int×Int×Int)
 leaves:List (Int×Int×Int×Int)
 fr:Nat->Int
 clock:Int
 last:Int
structure RefAt (w:World) (y:Nat) (K:RK) (vt vp vl:Value):Prop where
 blk:w.heap[y]? = some (.cells (kc vt vp vl K.sp K.fr K.clock K.last) 188 (0,0))
 th:Sl w 190 20 vt (K.threads.map rtRow)
 pa:Sl w 55 4 vp (K.passes.map qRow)
 le:Sl w 192 6 vl (K.leaves.map lRow)
 n1:vt.ownBlock≠some y
 n2:vp.ownBlock≠some y
 n3:vl.ownBlock≠some y
 n4:∀ k,vt.ownBlock=some k->vp.ownBlock≠some k/\vl.ownBlock≠some k
 n5:∀ k,vp.ownBlock=some k->vl.ownBlock≠some k
def born (i:Nat):List (Int×Int)->List (Int×Int×Int×Int)
 | []=>[]
 | p :: r=>(p.1,p.2,i,3) :: born (i+1) r
theorem born_append (i:Nat) (A:List (Int×Int)) (p:Int×Int):born i (A ++ [p])=born i A ++ [(p.1,p.2,((i+A.length:Nat):Int),3)]:=by
 induction A generalizing i with
 | nil=>simp [born]
 | cons a r ih=>
  simp only [List.cons_append,born,ih,List.length_cons]
  rw [show i+1+r.length=i+(r.length+1) by omega]
theorem born_step {T:List (Int×Int)}{k:Nat}{p:Int×Int}(h:T[k]? = some p):born 0 (T.take (k+1))=born 0 (T.take k) ++ [(p.1,p.2,(k:Int),3)]:=by
 obtain ⟨hk,e⟩:=List.getElem?_eq_some_iff.1 h
 rw [List.take_succ_eq_append_getElem hk,born_append,e]
 simp [Nat.min_eq_left (Nat.le_of_lt hk)]
theorem born_length (i:Nat) (T:List (Int×Int)):(born i T).length=T.length:=by
 induction T generalizing i with
 | nil=>rfl
 | cons p r ih=>simp [born,ih]
def RK.new (sp:Int) (T:List (Int×Int)) (Q L:List (Int×Int×Int×Int)):RK:=⟨born 0 T,sp,Q,L,fr0,0,T.length⟩
theorem Tryz.infoN190:(Tryz.prog.info? 190).map (fun i=>(i.zero,i.size,i.bytes))=some (some (.agg #[.int .i64 0,.int .i64 0,.int .i64 0,.int .i64 0,.int .i64 0,.int .i64 0,.slice none 0 0,.int .i64 0,.int .i64 0,.int .i64 0,.int .i64 0,.int .i64 0,.bool false,.int .i64 0,.int .i64 0,.int .i64 0,.int .i64 0,.int .i64 0,.slice none 0 0,.int .i64 0]),20,192):=by kernel_rfl
theorem Tryz.infoN192:(Tryz.prog.info? 192).map (fun i=>(i.zero,i.size,i.bytes))=some (some (.agg #[.int .i64 0,.int .i64 0,.int .i64 0,.int .i64 0,.int .i64 0,.int .i64 0]),6,48):=by kernel_rfl
theorem refNew_no (sp:Int) (vT vP vL:Value) (T:List (Int×Int)) (Q L:List (Int×Int×Int×Int)) (w:World) (iT:Inl w 2 vT (T.map tRow)) (iP:Inl w 4 vP (Q.map qRow)) (iL:Inl w 4 vL (L.map qRow)) (hf:¬ Fits sp T Q L) :
  Calls Tryz.prog 58 #[.agg #[.int .i64 sp,vT,vP,vL]] w fun e w'=>e=.returned (.tuple #[.pointer none,.int .i64 1])/\Below w.heap.size w w':=by
 obtain ⟨aT,cT,eT⟩:=iT.slice
 obtain ⟨aP,cP,eP⟩:=iP.slice
 obtain ⟨aL,cL,eL⟩:=iL.slice
 rw [List.length_map] at eT eP eL
 subst eT eP eL
 have HI:=hid (And.intro iT (And.intro iP iL))
 have HF:=hid hf
 clear iT iP iL hf
 go_enter Tryz.func58,Tryz.ntmps58
 go_wp2_with fail
 refine (fits_any sp _ _ _ T Q L _ (HI.out.1.alloc (by decide) _) (HI.out.2.1.alloc (by decide) _) (HI.out.2.2.alloc (by decide) _)).mono ?_
 rintro e w1 ⟨r,rfl,hr,hb⟩
 have er:r=false:=by
  cases r with
  | false=>rfl
  | true=>exact absurd (hr.1 rfl) HF.out
 subst er
 have HB:=hid hb
 clear hr hb
 go_wp2
 go_ret2
 exact ⟨rfl,((Below.refl _ w).alloc (Nat.le_refl _) _).trans (HB.out.mono (by simp))⟩
theorem refNew_yes (sp:Int) (vT vP vL:Value) (T:List (Int×Int)) (Q L:List (Int×Int×Int×Int)) (w:World) (iT:Inl w 2 vT (T.map tRow)) (iP:Inl w 4 vP (Q.map qRow)) (iL:Inl w 4 vL (L.map qRow)) (hf:Fits sp T Q L) (bQ:Q.length<=1000000000000) (bLL:L.length<=1000000000000) :
  Calls Tryz.prog 58 #[.agg #[.int .i64 sp,vT,vP,vL]] w fun e w'=>∃ y vt vp vl,e=.returned (.tuple #[.pointer (some ⟨y,0,none⟩),.int .i64 0])/\RefAt w' y (RK.new sp T Q L) vt vp vl/\Below w.heap.size w w' /\
   w.heap.size<=y/\∀ k,(vt.ownBlock=some k\/vp.ownBlock=some k\/vl.ownBlock=some k)->w.heap.size<=k:=by
 obtain ⟨aT,cT,eT⟩:=iT.slice
 obtain ⟨aP,cP,eP⟩:=iP.slice
 obtain ⟨aL,cL,eL⟩:=iL.slice
 rw [List.length_map] at eT eP eL
 subst eT eP eL
 have HT6:T.length<=6:=hf.2.1.2
 generalize hnT:T.length=nT at *
 generalize hnP:Q.length=nP at *
 generalize hnL:L.length=nL at *
 have HI:=hid (And.intro iT (And.intro iP iL))
 have HN:=hid (And.intro hnT (And.intro hnP hnL))
 have HF:=hid hf
 clear iT iP iL hf hnT hnP hnL
 obtain ⟨i0,hi,hz0,hz1,hz2⟩:=info_parts Tryz.infoN190
 obtain ⟨i1,hj,hy0,hy1,hy2⟩:=info_parts Tryz.infoN192
 go_enter Tryz.func58,Tryz.ntmps58
 go_wp2_with fail
 refine (fits_any sp _ _ _ T Q L _ (HI.out.1.alloc (by decide) _) (HI.out.2.1.alloc (by decide) _) (HI.out.2.2.alloc (by decide) _)).mono ?_
 rintro e w1 ⟨r,rfl,hr,hb⟩
 have er:r=true:=hr.2 HF.out
 subst er
 have c0:w1.cell? ⟨w.heap.size,0,none⟩=some (.int .i64 sp):=(hb.cell (p:=⟨w.heap.size,0,none⟩) (by simp)).trans ((cell_of_row _ _ 0 _ _ _ (heap_alloc_new w _)).trans rfl)
 have HB:=hid hb
 clear hr hb
 go_wp2_with fail
 have hlw:w.heap.size < w1.heap.size:=Nat.lt_of_lt_of_le (by simp) HB.out.size
 have KC:=hid (heap_alloc_new w1 (.cells (kc (.slice none 0 0) (.slice none 0 0) (.slice none 0 0) sp fr0 0 0) 188))
 go_loopw [6] (fun i wr=>∃ (k:Nat) (vt:Value),k<=nT/\i=.int .i64 k/\Hid (wr.heap[w1.heap.size]? = some (.cells (kc vt (.slice none 0 0) (.slice none 0 0) sp fr0 0 0) 188 (0,0)))/\Sl wr 190 20 vt ((born 0 (T.take k)).map rtRow)/\Hid (∀ q,vt.ownBlock=some q->w1.heap.size < q)/\Below w1.heap.size w1 wr) (fun i _=>nT-(intOf i).toNat)
 case atStart=>exact ⟨0,_,Nat.zero_le _,rfl,KC.out,Sl.nil _ _ _,fun q h=>by simp [Value.ownBlock] at h,(Below.refl _ w1).alloc (Nat.le_refl _) _⟩
 case round=>
  obtain ⟨k,vt,hk,rfl,hy,hs,hq,hw⟩:=hrel
  have HWb:Hid (Below (w.heap.size+1) (w.alloc (.cells #[.int .i64 sp,.slice aT nT cT,.slice aP nP cP,.slice aL nL cL] 32)) wr):=(HB.out.mono (by simp)).trans (hw.mono (by omega))
  have c1:wr.cell? ⟨w.heap.size,1,none⟩=some (.slice aT nT cT):=(cb4 HWb.out).2.1
  have lw:w.heap.size < wr.heap.size:=Nat.lt_of_lt_of_le hlw hw.size
  have ly:w1.heap.size < wr.heap.size:=(Array.getElem?_eq_some_iff.1 hy.out).1
  have hbl:(born 0 (T.take k)).length=k:=by rw [born_length];simp;have:=HN.out.1;omega
  by_cases hlt:k < nT
  ·obtain ⟨p,hp⟩:∃ p,T[k]? = some p:=⟨_,List.getElem?_eq_getElem (by have:=HN.out;omega)⟩
   obtain ⟨b1,o1,ea,r0⟩:=HI.out.1.row (k:=k) (r:=[.int .i64 p.1,.int .i64 p.2]) (by rw [List.getElem?_map,hp];rfl)
   subst ea
   have lb0:b1 < w.heap.size:=block_lt_of_cell (r0 0 (.int .i64 p.1) rfl)
   have r1:=rangeAt_cells r0 ((HWb.out.block b1 (by omega)).trans (Below.heap_alloc _ _ _ lb0))
   have g0:=r1 0 (.int .i64 p.1) rfl
   have g1:=r1 1 (.int .i64 p.2) rfl
   simp only [Nat.add_zero] at g0
   obtain ⟨at_,ct,et⟩:=hs.slice
   rw [List.length_map,hbl] at et
   subst et
   have k0:wr.cell? ⟨w1.heap.size,0,none⟩=some (.slice at_ k ct):=(cell_of_row wr _ 0 _ _ _ hy.out).trans rfl
   generalize hR:(born 0 (T.take k)).map rtRow=R at hs
   have hRl:Hid (R.length=k):=by unfold Hid;rw [<- hR,List.length_map,hbl]
   have HR:=hid hR
   clear hR
   have HS:=hid hs
   have HQ:Hid (Value.ownBlock (.slice at_ k ct)≠some w1.heap.size):=fun h=>by have:=hq.out _ h;omega
   have HH:=hid (And.intro hw hbl)
   have HP:=hid hp
   have lb:=block_lt_of_cell g0
   clear hs hw hbl r1 r0 hp
   go_wp2_with fail
   refine wp_region_held_drew (S:=(fun w'=>w'.cell? ⟨w.heap.size,1,none⟩=some (.slice (some ⟨b1,o1,none⟩) nT cT)/\w'.cell? ⟨b1,o1+k*2,none⟩=some (.int .i64 p.1)/\w'.cell? ⟨b1,o1+k*2+1,none⟩=some (.int .i64 p.2))) (by kernel_rfl) ?_ (fun hHeld=>?_)
   ·((try dsimp only);first | (refine ⟨?_,?_,?_⟩ <;> assumption) | (refine ⟨?_,?_,?_⟩ <;> (rw [World.cell?_of_block (Below.heap_setCell _ _ _ _ (by dsimp only;omega))];assumption)) | go_keep)
   refine wpAnyH_take (i:=0) (v:=?va0) rfl (by kernel_rfl) (by kernel_rfl) (by kernel_rfl) (fun _ _ _ h=>h) (Or.inl ⟨by rfl,?ya0⟩) (by assumption) ?ra0
   case ya0=>(intro wx hSw;(try dsimp only at hSw);go_simp;try with_reducible rfl)
   try simp only [List.getElem_toArray,List.getElem_cons_zero,Act.put,List.setIfInBounds_toArray,List.set_cons_zero,List.set_cons_succ]
   refine wpAnyH_take (i:=1) (v:=?va1) rfl (by kernel_rfl) (by kernel_rfl) (by kernel_rfl) (fun _ _ _ h=>h) (Or.inl ⟨by rfl,?ya1⟩) (by assumption) ?ra1
   case ya1=>(intro wx hSw;(try dsimp only at hSw);go_simp;try with_reducible rfl)
   try simp only [List.getElem_toArray,List.getElem_cons_zero,List.getElem_cons_succ,Act.put,List.setIfInBounds_toArray,List.set_cons_zero,List.set_cons_succ]
   refine wpAnyH_take (i:=2) (v:=?va2) rfl (by kernel_rfl) (by kernel_rfl) (by kernel_rfl) (fun _ _ _ h=>h) (Or.inl ⟨by rfl,?ya2⟩) (by assumption) ?ra2
   case ya2=>(intro wx hSw;(try dsimp only at hSw);go_simp;try with_reducible rfl)
   try simp only [List.getElem_toArray,List.getElem_cons_zero,List.getElem_cons_succ,Act.put,List.setIfInBounds_toArray,List.set_cons_zero,List.set_cons_succ]
   refine wpAnyH_take (i:=3) (v:=?va3) rfl (by kernel_rfl) (by kernel_rfl) (by kernel_rfl) (fun _ _ _ h=>h) (Or.inl ⟨by rfl,?ya3⟩) (by assumption) ?ra3
   case ya3=>(intro wx hSw;(try dsimp only at hSw);go_simp;try with_reducible rfl)
   try simp only [List.getElem_toArray,List.getElem_cons_zero,List.getElem_cons_succ,Act.put,List.setIfInBounds_toArray,List.set_cons_zero,List.set_cons_succ]
   refine wpAnyH_take (i:=5) (v:=?va5) rfl (by kernel_rfl) (by kernel_rfl) (by kernel_rfl) (fun _ _ _ h=>h) (Or.inl ⟨by rfl,?ya5⟩) (by assumption) ?ra5
   case ya5=>(intro wx hSw;(try dsimp only at hSw);go_simp;try with_reducible rfl)
   try simp only [List.getElem_toArray,List.getElem_cons_zero,List.getElem_cons_succ,Act.put,List.setIfInBounds_toArray,List.set_cons_zero,List.set_cons_succ]
   refine wpAnyH_take (i:=6) (v:=?va6) rfl (by kernel_rfl) (by kernel_rfl) (by kernel_rfl) (fun _ _ _ h=>h) (Or.inl ⟨by rfl,?ya6⟩) (by assumption) ?ra6
   case ya6=>(intro wx hSw;(try dsimp only at hSw);go_simp;try with_reducible rfl)
   try simp only [List.getElem_toArray,List.getElem_cons_zero,List.getElem_cons_succ,Act.put,List.setIfInBounds_toArray,List.set_cons_zero,List.set_cons_succ]
   refine wpAnyH_take (i:=7) (v:=?va7) rfl (by kernel_rfl) (by kernel_rfl) (by kernel_rfl) (fun _ _ _ h=>h) (Or.inl ⟨by rfl,?ya7⟩) (by assumption) ?ra7
   case ya7=>(intro wx hSw;(try dsimp only at hSw);go_simp;try with_reducible rfl)
   try simp only [List.getElem_toArray,List.getElem_cons_zero,List.getElem_cons_succ,Act.put,List.setIfInBounds_toArray,List.set_cons_zero,List.set_cons_succ]
   refine wpAnyH_take (i:=8) (v:=?va8) rfl (by kernel_rfl) (by kernel_rfl) (by kernel_rfl) (fun _ _ _ h=>h) (Or.inl ⟨by rfl,?ya8⟩) (by assumption) ?ra8
   case ya8=>(intro wx hSw;(try dsimp only at hSw);go_simp;try with_reducible rfl)
   try simp only [List.getElem_toArray,List.getElem_cons_zero,List.getElem_cons_succ,Act.put,List.setIfInBounds_toArray,List.set_cons_zero,List.set_cons_succ]
   refine wpAnyH_take (i:=9) (v:=?va9) rfl (by kernel_rfl) (by kernel_rfl) (by kernel_rfl) (fun _ _ _ h=>h) (Or.inl ⟨by rfl,?ya9⟩) (by assumption) ?ra9
   case ya9=>(intro wx hSw;(try dsimp only at hSw);go_simp;try with_reducible rfl)
   try simp only [List.getElem_toArray,List.getElem_cons_zero,List.getElem_cons_succ,Act.put,List.setIfInBounds_toArray,List.set_cons_zero,List.set_cons_succ]
   refine wpAnyH_take (i:=10) (v:=?va10) rfl (by kernel_rfl) (by kernel_rfl) (by kernel_rfl) (fun _ _ _ h=>h) (Or.inl ⟨by rfl,?ya10⟩) (by assumption) ?ra10
   case ya10=>(intro wx hSw;(try dsimp only at hSw);go_simp;try with_reducible rfl)
   try simp only [List.getElem_toArray,List.getElem_cons_zero,List.getElem_cons_succ,Act.put,List.setIfInBounds_toArray,List.set_cons_zero,List.set_cons_succ]
   refine wpAnyH_take (i:=11) (v:=?va11) rfl (by kernel_rfl) (by kernel_rfl) (by kernel_rfl) (fun _ _ _ h=>h) (Or.inl ⟨by rfl,?ya11⟩) (by assumption) ?ra11
   case ya11=>(intro wx hSw;(try dsimp only at hSw);go_simp;try with_reducible rfl)
   try simp only [List.getElem_toArray,List.getElem_cons_zero,List.getElem_cons_succ,Act.put,List.setIfInBounds_toArray,List.set_cons_zero,List.set_cons_succ]
   refine wpAnyH_take (i:=12) (v:=?va12) rfl (by kernel_rfl) (by kernel_rfl) (by kernel_rfl) (fun _ _ _ h=>h) (Or.inl ⟨by rfl,?ya12⟩) (by assumption) ?ra12
   case ya12=>(intro wx hSw;(try dsimp only at hSw);go_simp;try with_reducible rfl)
   try simp only [List.getElem_toArray,List.getElem_cons_zero,List.getElem_cons_succ,Act.put,List.setIfInBounds_toArray,List.set_cons_zero,List.set_cons_succ]
   refine wpAnyH_take (i:=13) (v:=?va13) rfl (by kernel_rfl) (by kernel_rfl) (by kernel_rfl) (fun _ _ _ h=>h) (Or.inl ⟨by rfl,?ya13⟩) (by assumption) ?ra13
   case ya13=>(intro wx hSw;(try dsimp only at hSw);go_simp;try with_reducible rfl)
   try simp only [List.getElem_toArray,List.getElem_cons_zero,List.getElem_cons_succ,Act.put,List.setIfInBounds_toArray,List.set_cons_zero,List.set_cons_succ]
   refine wpAnyH_take (i:=14) (v:=?va14) rfl (by kernel_rfl) (by kernel_rfl) (by kernel_rfl) (fun _ _ _ h=>h) (Or.inl ⟨by rfl,?ya14⟩) (by assumption) ?ra14
   case ya14=>(intro wx hSw;(try dsimp only at hSw);go_simp;try with_reducible rfl)
   try simp only [List.getElem_toArray,List.getElem_cons_zero,List.getElem_cons_succ,Act.put,List.setIfInBounds_toArray,List.set_cons_zero,List.set_cons_succ]
   refine wpAnyH_take (i:=15) (v:=?va15) rfl (by kernel_rfl) (by kernel_rfl) (by kernel_rfl) (fun _ _ _ h=>h) (Or.inl ⟨by rfl,?ya15⟩) (by assumption) ?ra15
   case ya15=>(intro wx hSw;(try dsimp only at hSw);go_simp;try with_reducible rfl)
   try simp only [List.getElem_toArray,List.getElem_cons_zero,List.getElem_cons_succ,Act.put,List.setIfInBounds_toArray,List.set_cons_zero,List.set_cons_succ]
   refine wpAnyH_take (i:=16) (v:=?va16) rfl (by kernel_rfl) (by kernel_rfl) (by kernel_rfl) (fun _ _ _ h=>h) (Or.inl ⟨by rfl,?ya16⟩) (by assumption) ?ra16
   case ya16=>(intro wx hSw;(try dsimp only at hSw);go_simp;try with_reducible rfl)
   try simp only [List.getElem_toArray,List.getElem_cons_zero,List.getElem_cons_succ,Act.put,List.setIfInBounds_toArray,List.set_cons_zero,List.set_cons_succ]
   refine wpAnyH_take (i:=17) (v:=?va17) rfl (by kernel_rfl) (by kernel_rfl) (by kernel_rfl) (fun _ _ _ h=>h) (Or.inl ⟨by rfl,?ya17⟩) (by assumption) ?ra17
   case ya17=>(intro wx hSw;(try dsimp only at hSw);go_simp;try with_reducible rfl)
   try simp only [List.getElem_toArray,List.getElem_cons_zero,List.getElem_cons_succ,Act.put,List.setIfInBounds_toArray,List.set_cons_zero,List.set_cons_succ]
   refine wpAnyH_take (i:=18) (v:=?va18) rfl (by kernel_rfl) (by kernel_rfl) (by kernel_rfl) (fun _ _ _ h=>h) (Or.inl ⟨by rfl,?ya18⟩) (by assumption) ?ra18
   case ya18=>(intro wx hSw;(try dsimp only at hSw);go_simp;try with_reducible rfl)
   try simp only [List.getElem_toArray,List.getElem_cons_zero,List.getElem_cons_succ,Act.put,List.setIfInBounds_toArray,List.set_cons_zero,List.set_cons_succ]
   refine wpAnyH_ready (rs:=[4,19]) (by kernel_rfl) (by simp) (AllReadyH.cons rfl (fun K hK=>?onea) (AllReadyH.cons rfl (fun K hK=>?twoa) AllReadyH.nil))
   case' onea=>
    go_simp
    refine hK.out _ _ ?_ (fun hHeld0=>?_)
    ·((try dsimp only);first | (refine ⟨?_,?_,?_⟩ <;> assumption) | (refine ⟨?_,?_,?_⟩ <;> (rw [World.cell?_of_block (Below.heap_setCell _ _ _ _ (by dsimp only;omega))];assumption)) | go_keep)
    clear hK K hHeld
    try simp only [List.getElem_toArray,List.getElem_cons_zero,List.getElem_cons_succ,Act.put,List.setIfInBounds_toArray,List.set_cons_zero,List.set_cons_succ]
    refine wpAnyH_ready (rs:=[19]) (by kernel_rfl) (by simp) (AllReadyH.cons rfl (fun K hK=>?_) AllReadyH.nil)
    go_simp
    refine hK.out _ _ ?_ (fun hHeld1=>?_)
    ·((try dsimp only);first | (refine ⟨?_,?_,?_⟩ <;> assumption) | (refine ⟨?_,?_,?_⟩ <;> (rw [World.cell?_of_block (Below.heap_setCell _ _ _ _ (by dsimp only;omega))];assumption)) | go_keep)
    clear hK K hHeld0
    try simp only [List.getElem_toArray,List.getElem_cons_zero,List.getElem_cons_succ,Act.put,List.setIfInBounds_toArray,List.set_cons_zero,List.set_cons_succ]
    refine wpAnyH_ready (rs:=[20]) (by kernel_rfl) (by simp) (AllReadyH.cons rfl (fun K hK=>?_) AllReadyH.nil)
    (refine step_append_sl _ rfl _ _ 184 rfl 190 i0 _ 20 192 Tryz.underlying184 hi hz0 hz1 hz2 rfl (by decide) (.slice at_ k ct) R (by simp [Act.eval]) ((HS.out.alloc _).drew) ⟨wr.heap.size,0,none⟩ 1 1 [[.int .i64 p.1,.int .i64 p.2,.int .i64 1,.int .i64 k,.int .i64 3,.int .i64 0,.slice none 0 0,.int .i64 0,.int .i64 0,.int .i64 0,.int .i64 0,.int .i64 0,.bool false,.int .i64 0,.int .i64 0,.int .i64 (-1),.int .i64 0,.int .i64 (-1),.slice none 0 0,.int .i64 (-1)]] (by simp [Act.eval]) rfl (by decide) (by simp) (fun j u h=>cell_news wr #[.int .i64 p.1,.int .i64 p.2,.int .i64 1,.int .i64 k,.int .i64 3,.int .i64 0,.slice none 0 0,.int .i64 0,.int .i64 0,.int .i64 0,.int .i64 0,.int .i64 0,.bool false,.int .i64 0,.int .i64 0,.int .i64 (-1),.int .i64 0,.int .i64 (-1),.slice none 0 0,.int .i64 (-1)] 190 j u (by simpa using h)) (fun u hu=>(List.all_eq_true.1 (show ([[.int .i64 p.1,.int .i64 p.2,.int .i64 1,.int .i64 k,.int .i64 3,.int .i64 0,.slice none 0 0,.int .i64 0,.int .i64 0,.int .i64 0,.int .i64 0,.int .i64 0,.bool false,.int .i64 0,.int .i64 0,.int .i64 (-1),.int .i64 0,.int .i64 (-1),.slice none 0 0,.int .i64 (-1)]].flatten).all (·.oneCell')=true from rfl)) u hu) (by have:=hRl.out;unfold maxLen;omega) (by have:=hRl.out;omega) ?_;intro a4 c4 w4 G4;have hb4:Hid (w4.heap[w1.heap.size]? = some (.cells (kc (.slice at_ k ct) (.slice none 0 0) (.slice none 0 0) sp fr0 0 0) 188 (0,0))):=(G4.old (by simp;omega) HQ.out).trans ((((Fr.refl (fun _=>False) wr).alloc _).drew.block _ ly id).trans hy.out);have hc4:w4.cell? ⟨w1.heap.size,0,none⟩=some (.slice at_ k ct):=(cell_of_row w4 _ 0 _ _ _ hb4.out).trans rfl;have hf4:w4.frozen? ⟨w1.heap.size,0,none⟩=false:=frozen_of_row _ _ _ _ _ hb4.out;have o4:∀ (x j:Nat),x<=w.heap.size->w4.cell? ⟨x,j,none⟩=wr.cell? ⟨x,j,none⟩:=(fun x j hx=>World.cell?_of_block (w:=wr) (a:=⟨x,j,none⟩) ((G4.old (by simp;omega) (fun h=>absurd (hq.out _ h) (show ¬ (w1.heap.size < x) by omega))).trans (((Fr.refl (fun _=>False) wr).alloc _).drew.block _ (show x < wr.heap.size by omega) id)));have h5:w4.cell? ⟨w.heap.size,1,none⟩=some (.slice (some ⟨b1,o1,none⟩) nT cT):=(o4 _ _ (Nat.le_refl _)).trans c1;have h6:w4.cell? ⟨b1,o1+k*2,none⟩=some (.int .i64 p.1):=(o4 _ _ (by omega)).trans g0;have h7:w4.cell? ⟨b1,o1+k*2+1,none⟩=some (.int .i64 p.2):=(o4 _ _ (by omega)).trans g1)
    refine hK.out _ _ ?_ (fun hHeld2=>?_)
    ·((try dsimp only);first | (refine ⟨?_,?_,?_⟩ <;> assumption) | (refine ⟨?_,?_,?_⟩ <;> (rw [World.cell?_of_block (Below.heap_setCell _ _ _ _ (by dsimp only;omega))];assumption)) | go_keep)
    clear hK K hHeld1
    try simp only [List.getElem_toArray,List.getElem_cons_zero,List.getElem_cons_succ,Act.put,List.setIfInBounds_toArray,List.set_cons_zero,List.set_cons_succ]
    refine wpAnyH_take (i:=21) (v:=?vonea21) rfl (by kernel_rfl) (by kernel_rfl) (by kernel_rfl) (fun _ _ _ h=>h) (Or.inl ⟨by rfl,?yonea21⟩) (by assumption) ?ronea21
    case yonea21=>(intro wx hSw;(try dsimp only at hSw);go_simp;try with_reducible rfl)
    try simp only [List.getElem_toArray,List.getElem_cons_zero,List.getElem_cons_succ,Act.put,List.setIfInBounds_toArray,List.set_cons_zero,List.set_cons_succ]
    refine wpAnyH_take (i:=22) (v:=?vonea22) rfl (by kernel_rfl) (by kernel_rfl) (by kernel_rfl) (fun _ _ _ h=>h) (Or.inl ⟨by rfl,?yonea22⟩) (by assumption) ?ronea22
    case yonea22=>(intro wx hSw;(try dsimp only at hSw);go_simp;try with_reducible rfl)
    try simp only [List.getElem_toArray,List.getElem_cons_zero,List.getElem_cons_succ,Act.put,List.setIfInBounds_toArray,List.set_cons_zero,List.set_cons_succ]
    refine wpAnyH_ready (rs:=[23]) (by kernel_rfl) (by simp) (AllReadyH.cons rfl (fun K hK=>?_) AllReadyH.nil)
    go_simp
    refine hK.out _ _ ?_ (fun hHeld3=>?_)
    ·((try dsimp only);first | (refine ⟨?_,?_,?_⟩ <;> assumption) | (refine ⟨?_,?_,?_⟩ <;> (rw [World.cell?_of_block (Below.heap_setCell _ _ _ _ (by dsimp only;omega))];assumption)) | go_keep)
    clear hK K hHeld2
    try simp only [List.getElem_toArray,List.getElem_cons_zero,List.getElem_cons_succ,Act.put,List.setIfInBounds_toArray,List.set_cons_zero,List.set_cons_succ]
    refine wpAnyH_done (by kernel_rfl) ?_ _
   case' twoa=>
    go_simp
    refine hK.out _ _ ?_ (fun hHeld0=>?_)
    ·((try dsimp only);first | (refine ⟨?_,?_,?_⟩ <;> assumption) | (refine ⟨?_,?_,?_⟩ <;> (rw [World.cell?_of_block (Below.heap_setCell _ _ _ _ (by dsimp only;omega))];assumption)) | go_keep)
    clear hK K hHeld
    try simp only [List.getElem_toArray,List.getElem_cons_zero,List.getElem_cons_succ,Act.put,List.setIfInBounds_toArray,List.set_cons_zero,List.set_cons_succ]
    refine wpAnyH_ready (rs:=[4]) (by kernel_rfl) (by simp) (AllReadyH.cons rfl (fun K hK=>?_) AllReadyH.nil)
    go_simp
    refine hK.out _ _ ?_ (fun hHeld1=>?_)
    ·((try dsimp only);first | (refine ⟨?_,?_,?_⟩ <;> assumption) | (refine ⟨?_,?_,?_⟩ <;> (rw [World.cell?_of_block (Below.heap_setCell _ _ _ _ (by dsimp only;omega))];assumption)) | go_keep)
    clear hK K hHeld0
    try simp only [List.getElem_toArray,List.getElem_cons_zero,List.getElem_cons_succ,Act.put,List.setIfInBounds_toArray,List.set_cons_zero,List.set_cons_succ]
    refine wpAnyH_ready (rs:=[20]) (by kernel_rfl) (by simp) (AllReadyH.cons rfl (fun K hK=>?_) AllReadyH.nil)
    (refine step_append_sl _ rfl _ _ 184 rfl 190 i0 _ 20 192 Tryz.underlying184 hi hz0 hz1 hz2 rfl (by decide) (.slice at_ k ct) R (by simp [Act.eval]) ((HS.out.alloc _).drew) ⟨wr.heap.size,0,none⟩ 1 1 [[.int .i64 p.1,.int .i64 p.2,.int .i64 1,.int .i64 k,.int .i64 3,.int .i64 0,.slice none 0 0,.int .i64 0,.int .i64 0,.int .i64 0,.int .i64 0,.int .i64 0,.bool false,.int .i64 0,.int .i64 0,.int .i64 (-1),.int .i64 0,.int .i64 (-1),.slice none 0 0,.int .i64 (-1)]] (by simp [Act.eval]) rfl (by decide) (by simp) (fun j u h=>cell_news wr #[.int .i64 p.1,.int .i64 p.2,.int .i64 1,.int .i64 k,.int .i64 3,.int .i64 0,.slice none 0 0,.int .i64 0,.int .i64 0,.int .i64 0,.int .i64 0,.int .i64 0,.bool false,.int .i64 0,.int .i64 0,.int .i64 (-1),.int .i64 0,.int .i64 (-1),.slice none 0 0,.int .i64 (-1)] 190 j u (by simpa using h)) (fun u hu=>(List.all_eq_true.1 (show ([[.int .i64 p.1,.int .i64 p.2,.int .i64 1,.int .i64 k,.int .i64 3,.int .i64 0,.slice none 0 0,.int .i64 0,.int .i64 0,.int .i64 0,.int .i64 0,.int .i64 0,.bool false,.int .i64 0,.int .i64 0,.int .i64 (-1),.int .i64 0,.int .i64 (-1),.slice none 0 0,.int .i64 (-1)]].flatten).all (·.oneCell')=true from rfl)) u hu) (by have:=hRl.out;unfold maxLen;omega) (by have:=hRl.out;omega) ?_;intro a4 c4 w4 G4;have hb4:Hid (w4.heap[w1.heap.size]? = some (.cells (kc (.slice at_ k ct) (.slice none 0 0) (.slice none 0 0) sp fr0 0 0) 188 (0,0))):=(G4.old (by simp;omega) HQ.out).trans ((((Fr.refl (fun _=>False) wr).alloc _).drew.block _ ly id).trans hy.out);have hc4:w4.cell? ⟨w1.heap.size,0,none⟩=some (.slice at_ k ct):=(cell_of_row w4 _ 0 _ _ _ hb4.out).trans rfl;have hf4:w4.frozen? ⟨w1.heap.size,0,none⟩=false:=frozen_of_row _ _ _ _ _ hb4.out;have o4:∀ (x j:Nat),x<=w.heap.size->w4.cell? ⟨x,j,none⟩=wr.cell? ⟨x,j,none⟩:=(fun x j hx=>World.cell?_of_block (w:=wr) (a:=⟨x,j,none⟩) ((G4.old (by simp;omega) (fun h=>absurd (hq.out _ h) (show ¬ (w1.heap.size < x) by omega))).trans (((Fr.refl (fun _=>False) wr).alloc _).drew.block _ (show x < wr.heap.size by omega) id)));have h5:w4.cell? ⟨w.heap.size,1,none⟩=some (.slice (some ⟨b1,o1,none⟩) nT cT):=(o4 _ _ (Nat.le_refl _)).trans c1;have h6:w4.cell? ⟨b1,o1+k*2,none⟩=some (.int .i64 p.1):=(o4 _ _ (by omega)).trans g0;have h7:w4.cell? ⟨b1,o1+k*2+1,none⟩=some (.int .i64 p.2):=(o4 _ _ (by omega)).trans g1)
    refine hK.out _ _ ?_ (fun hHeld2=>?_)
    ·((try dsimp only);first | (refine ⟨?_,?_,?_⟩ <;> assumption) | (refine ⟨?_,?_,?_⟩ <;> (rw [World.cell?_of_block (Below.heap_setCell _ _ _ _ (by dsimp only;omega))];assumption)) | go_keep)
    clear hK K hHeld1
    try simp only [List.getElem_toArray,List.getElem_cons_zero,List.getElem_cons_succ,Act.put,List.setIfInBounds_toArray,List.set_cons_zero,List.set_cons_succ]
    refine wpAnyH_take (i:=21) (v:=?vtwoa21) rfl (by kernel_rfl) (by kernel_rfl) (by kernel_rfl) (fun _ _ _ h=>h) (Or.inl ⟨by rfl,?ytwoa21⟩) (by assumption) ?rtwoa21
    case ytwoa21=>(intro wx hSw;(try dsimp only at hSw);go_simp;try with_reducible rfl)
    try simp only [List.getElem_toArray,List.getElem_cons_zero,List.getElem_cons_succ,Act.put,List.setIfInBounds_toArray,List.set_cons_zero,List.set_cons_succ]
    refine wpAnyH_take (i:=22) (v:=?vtwoa22) rfl (by kernel_rfl) (by kernel_rfl) (by kernel_rfl) (fun _ _ _ h=>h) (Or.inl ⟨by rfl,?ytwoa22⟩) (by assumption) ?rtwoa22
    case ytwoa22=>(intro wx hSw;(try dsimp only at hSw);go_simp;try with_reducible rfl)
    try simp only [List.getElem_toArray,List.getElem_cons_zero,List.getElem_cons_succ,Act.put,List.setIfInBounds_toArray,List.set_cons_zero,List.set_cons_succ]
    refine wpAnyH_ready (rs:=[23]) (by kernel_rfl) (by simp) (AllReadyH.cons rfl (fun K hK=>?_) AllReadyH.nil)
    go_simp
    refine hK.out _ _ ?_ (fun hHeld3=>?_)
    ·((try dsimp only);first | (refine ⟨?_,?_,?_⟩ <;> assumption) | (refine ⟨?_,?_,?_⟩ <;> (rw [World.cell?_of_block (Below.heap_setCell _ _ _ _ (by dsimp only;omega))];assumption)) | go_keep)
    clear hK K hHeld2
    try simp only [List.getElem_toArray,List.getElem_cons_zero,List.getElem_cons_succ,Act.put,List.setIfInBounds_toArray,List.set_cons_zero,List.set_cons_succ]
    refine wpAnyH_done (by kernel_rfl) ?_ _
   all_goals
    go_wp2
    have F:Fr (fun q=>w1.heap.size<=q) wr (w4.setCell ⟨w1.heap.size,0,none⟩ (.slice a4 (R.length+1) c4)):=(G4.fr ((((Fr.refl _ wr).alloc _).drew)) (fun q hq' _=>Nat.le_of_lt (hq.out q hq'))).setCell (fun _=>Nat.le_refl _) _
    have ub:Hid (∀ q,Value.ownBlock (.slice a4 (R.length+1) c4)=some q->w1.heap.size < q):=fun q hq'=>by
     rcases G4.at_ q hq' with h | h
     ·have:wr.heap.size+1<=q:=by simpa using h
      omega
     ·exact hq.out q h
    have eR:(born 0 (T.take (k+1))).map rtRow=R ++ [rtRow (p.1,p.2,(k:Int),3)]:=by
     rw [born_step HP.out,List.map_append,HR.out];rfl
    refine ⟨⟨k+1,.slice a4 (R.length+1) c4,by omega,by go_num,heap_setCell_same w4 _ 0 _ _ _ hb4.out,?_,ub,HH.out.1.trans (F.to_below HH.out.1.size (fun q h=>h))⟩,by simp [intOf];omega⟩
    rw [eR]
    exact G4.sl.kept ((Fr.refl (fun q=>q=w1.heap.size) w4).setCell (p:=⟨w1.heap.size,0,none⟩) (fun _=>rfl) _) (fun q hq' h=>by have:=ub.out q hq';omega)
  ·have ek:T.take k=T:=List.take_of_length_le (by have:=HN.out.1;omega)
   rw [ek] at hs hbl
   have ST:=hid hs
   have k7:wr.cell? ⟨w1.heap.size,38,none⟩=some (.int .i64 0):=(cell_of_row wr _ 38 _ _ _ hy.out).trans rfl
   have f7:wr.frozen? ⟨w1.heap.size,38,none⟩=false:=frozen_of_row _ _ _ _ _ hy.out
   clear hs ek hbl
   go_wp2_with fail
   have yv:Hid ((wr.setCell ⟨w1.heap.size,38,none⟩ (.int .i64 nT)).heap[w1.heap.size]? = some (.cells (kc vt (.slice none 0 0) (.slice none 0 0) sp fr0 0 nT) 188 (0,0))):=heap_setCell_same wr _ 38 _ _ _ hy.out
   have FV:Fr (fun q=>q=w1.heap.size) wr (wr.setCell ⟨w1.heap.size,38,none⟩ (.int .i64 nT)):=(Fr.refl (fun q=>q=w1.heap.size) wr).setCell (p:=⟨w1.heap.size,38,none⟩) (fun _=>rfl) _
   have STv:=hid (ST.out.kept FV (fun q hq' h=>by have:=hq.out q hq';omega))
   have HWv:=hid (hw.trans (FV.to_below hw.size (fun q h=>by omega)))
   generalize wr.setCell ⟨w1.heap.size,38,none⟩ (.int .i64 nT)=wv at *
   clear FV ST hy c1 lw ly k7 f7 hw HWb hk hlt
   have HWb:Hid (Below (w.heap.size+1) (w.alloc (.cells #[.int .i64 sp,.slice aT nT cT,.slice aP nP cP,.slice aL nL cL] 32)) wv):=(HB.out.mono (by simp)).trans (HWv.out.mono (by omega))
   have c2:wv.cell? ⟨w.heap.size,2,none⟩=some (.slice aP nP cP):=(cb4 HWb.out).2.2.1
   have ly:w1.heap.size < wv.heap.size:=(Array.getElem?_eq_some_iff.1 yv.out).1
   have lw:w.heap.size < wv.heap.size:=by omega
   have k2:wv.cell? ⟨w1.heap.size,2,none⟩=some (.slice none 0 0):=(cell_of_row wv _ 2 _ _ _ yv.out).trans rfl
   have IPv:=hid (HI.out.2.1.below1 (by decide) HWb.out)
   obtain ⟨i2,hi2,hx0,hx1,hx2⟩:=info_parts Tryz.infoN55
   go_cut [] (fun wc=>∃ vp,Hid (wc.heap[w1.heap.size]? = some (.cells (kc vt vp (.slice none 0 0) sp fr0 0 nT) 188 (0,0)))/\Sl wc 55 4 vp (Q.map qRow)/\Sl wc 190 20 vt ((born 0 T).map rtRow)/\Hid (∀ q,vp.ownBlock=some q->w1.heap.size < q/\vt.ownBlock≠some q)/\Below w1.heap.size w1 wc)
   case first=>
    go_region_law (refine step_append_inl _ rfl (.tmp 57) (.tmp 59) 29 rfl 55 i2 _ 4 32 Tryz.underlying29 hi2 hx0 hx1 hx2 rfl (by decide) (by simp [Act.eval]) aP nP cP (Q.map qRow) (by simp [Act.eval]) IPv.out.drew (by rw [List.length_map];have:=HN.out;omega) ?_;intro a5 c5 w5 G5;rw [List.length_map] at G5;have hb5:Hid (w5.heap[w1.heap.size]? = some (.cells (kc vt (.slice none 0 0) (.slice none 0 0) sp fr0 0 nT) 188 (0,0))):=(G5.old (by simp;omega) (by simp [Value.ownBlock])).trans yv.out;have hc5:w5.cell? ⟨w1.heap.size,2,none⟩=some (.slice none 0 0):=(cell_of_row w5 _ 2 _ _ _ hb5.out).trans rfl;have hf5:w5.frozen? ⟨w1.heap.size,2,none⟩=false:=frozen_of_row _ _ _ _ _ hb5.out)
    all_goals
     go_wp2
     go_meet
     case rel=>
      have F5:Fr (fun _=>False) wv w5:=(G5.fr (((Fr.refl (fun _=>False) wv)).drew) (fun q hq'=>by simp [Value.ownBlock] at hq'))
      have F6:Fr (fun q=>q=w1.heap.size) w5 (w5.setCell ⟨w1.heap.size,2,none⟩ (.slice a5 Q.length c5)):=(Fr.refl (fun q=>q=w1.heap.size) w5).setCell (p:=⟨w1.heap.size,2,none⟩) (fun _=>rfl) _
      have ub:∀ q,Value.ownBlock (.slice a5 Q.length c5)=some q->wv.heap.size<=q:=fun q hq'=>by
       rcases G5.at_ q hq' with h | h
       ·exact h
       ·simp [Value.ownBlock] at h
      exact ⟨.slice a5 Q.length c5,heap_setCell_same w5 _ 2 _ _ _ hb5.out,G5.sl.kept F6 (fun q hq' h=>by have:=ub q hq';omega),(STv.out.kept F5 (fun _ _ h=>h)).kept F6 (fun q hq' h=>by have:=hq.out q hq';omega),fun q hq'=>⟨by have:=ub q hq';omega,fun h=>by have:=ub q hq';have:=STv.out.lt h;omega⟩,(HWv.out.trans (F5.to_below HWv.out.size (fun _ h=>h.elim))).trans (F6.to_below (by have:=HWv.out.size;have:=F5.size;omega) (fun q h=>by omega))⟩
   case rest=>
   obtain ⟨vp,yv,SPv,STv,hqp,HWv⟩:=hcut
   clear c2 k2 IPv ly lw HWb
   have HWv:=hid HWv
   have STv:=hid STv
   have SPv:=hid SPv
   go_wp2_with fail
   go_loopw [7] (fun i wr=>∃ (k:Nat) (vl:Value),k<=nL/\i=.int .i64 k/\Hid (wr.heap[w1.heap.size]? = some (.cells (kc vt vp vl sp fr0 0 nT) 188 (0,0)))/\Sl wr 192 6 vl ((L.take k).map lRow)/\Sl wr 55 4 vp (Q.map qRow)/\Sl wr 190 20 vt ((born 0 T).map rtRow)/\Hid (∀ q,vl.ownBlock=some q->w1.heap.size < q/\vt.ownBlock≠some q/\vp.ownBlock≠some q)/\Below w1.heap.size w1 wr) (fun i _=>nL-(intOf i).toNat)
   case atStart=>exact ⟨0,_,Nat.zero_le _,rfl,yv.out,Sl.nil _ _ _,SPv.out,STv.out,fun q h=>by simp [Value.ownBlock] at h,HWv.out⟩
   case round=>
    obtain ⟨k,vl,hk,rfl,hy,hs,hsp,hst,hql,hw⟩:=hrel
    have HWb:Hid (Below (w.heap.size+1) (w.alloc (.cells #[.int .i64 sp,.slice aT nT cT,.slice aP nP cP,.slice aL nL cL] 32)) wr):=(HB.out.mono (by simp)).trans (hw.mono (by omega))
    have c3:wr.cell? ⟨w.heap.size,3,none⟩=some (.slice aL nL cL):=(cb4 HWb.out).2.2.2
    have ly:w1.heap.size < wr.heap.size:=(Array.getElem?_eq_some_iff.1 hy.out).1
    have lw:w.heap.size < wr.heap.size:=by omega
    have hbl:(L.take k).length=k:=by rw [List.length_take];have:=HN.out.2.2;omega
    by_cases hlt:k < nL
    ·obtain ⟨p,hp⟩:∃ p,L[k]? = some p:=⟨_,List.getElem?_eq_getElem (by have:=HN.out;omega)⟩
     obtain ⟨b1,o1,ea,r1⟩:=(HI.out.2.2.below1 (by decide) HWb.out).row (k:=k) (r:=[.int .i64 p.1,.int .i64 p.2.1,.int .i64 p.2.2.1,.int .i64 p.2.2.2]) (by rw [List.getElem?_map,hp];rfl)
     subst ea
     have R1:=hid r1
     obtain ⟨al_,cl,et⟩:=hs.slice
     rw [List.length_map,hbl] at et
     subst et
     have k3:wr.cell? ⟨w1.heap.size,3,none⟩=some (.slice al_ k cl):=(cell_of_row wr _ 3 _ _ _ hy.out).trans rfl
     generalize hR:(L.take k).map lRow=R at hs
     have hRl:Hid (R.length=k):=by unfold Hid;rw [<- hR,List.length_map,hbl]
     have HR:=hid hR
     clear hR
     have HS:=hid hs
     have HQ:Hid (Value.ownBlock (.slice al_ k cl)≠some w1.heap.size):=fun h=>by have:=hql.out _ h;omega
     have HH:=hid (And.intro hw (And.intro hsp hst))
     have HP:=hid hp
     clear hs hw hbl r1 hp hsp hst
     go_wp2_with (with_reducible (show wpList _ _ _ (⟨_,.load 67 _,_,_,_,none⟩ :: _) _ _);go_must (refine wpList_load_mid rfl 67 _ rfl b1 (o1+k*4) rfl _ _ R1.out Tryz.underlying67 rfl (by kernel_rfl) ?_))
     refine wp_region_held_drew (S:=(fun w'=>w'.cell? ⟨wr.heap.size,0,none⟩=some (.int .i64 p.1)/\w'.cell? ⟨wr.heap.size,1,none⟩=some (.int .i64 p.2.1)/\w'.cell? ⟨wr.heap.size,2,none⟩=some (.int .i64 p.2.2.1)/\w'.cell? ⟨wr.heap.size,3,none⟩=some (.int .i64 p.2.2.2))) (by kernel_rfl) ?_ (fun hHeld=>?_)
     ·((try dsimp only);first | (refine ⟨?_,?_,?_,?_⟩ <;> assumption) | (refine ⟨?_,?_,?_,?_⟩ <;> (rw [World.cell?_of_block (Below.heap_setCell _ _ _ _ (by dsimp only;omega))];assumption)) | go_keep)
     refine wpAnyH_take (i:=0) (v:=?vb0) rfl (by kernel_rfl) (by kernel_rfl) (by kernel_rfl) (fun _ _ _ h=>h) (Or.inl ⟨by rfl,?yb0⟩) (by assumption) ?rb0
     case yb0=>(intro wx hSw;(try dsimp only at hSw);go_simp;try with_reducible rfl)
     try simp only [List.getElem_toArray,List.getElem_cons_zero,Act.put,List.setIfInBounds_toArray,List.set_cons_zero,List.set_cons_succ]
     refine wpAnyH_take (i:=1) (v:=?vb1) rfl (by kernel_rfl) (by kernel_rfl) (by kernel_rfl) (fun _ _ _ h=>h) (Or.inl ⟨by rfl,?yb1⟩) (by assumption) ?rb1
     case yb1=>(intro wx hSw;(try dsimp only at hSw);go_simp;try with_reducible rfl)
     try simp only [List.getElem_toArray,List.getElem_cons_zero,List.getElem_cons_succ,Act.put,List.setIfInBounds_toArray,List.set_cons_zero,List.set_cons_succ]
     refine wpAnyH_take (i:=2) (v:=?vb2) rfl (by kernel_rfl) (by kernel_rfl) (by kernel_rfl) (fun _ _ _ h=>h) (Or.inl ⟨by rfl,?yb2⟩) (by assumption) ?rb2
     case yb2=>(intro wx hSw;(try dsimp only at hSw);go_simp;try with_reducible rfl)
     try simp only [List.getElem_toArray,List.getElem_cons_zero,List.getElem_cons_succ,Act.put,List.setIfInBounds_toArray,List.set_cons_zero,List.set_cons_succ]
     refine wpAnyH_take (i:=3) (v:=?vb3) rfl (by kernel_rfl) (by kernel_rfl) (by kernel_rfl) (fun _ _ _ h=>h) (Or.inl ⟨by rfl,?yb3⟩) (by assumption) ?rb3
     case yb3=>(intro wx hSw;(try dsimp only at hSw);go_simp;try with_reducible rfl)
     try simp only [List.getElem_toArray,List.getElem_cons_zero,List.getElem_cons_succ,Act.put,List.setIfInBounds_toArray,List.set_cons_zero,List.set_cons_succ]
     refine wpAnyH_take (i:=5) (v:=?vb5) rfl (by kernel_rfl) (by kernel_rfl) (by kernel_rfl) (fun _ _ _ h=>h) (Or.inl ⟨by rfl,?yb5⟩) (by assumption) ?rb5
     case yb5=>(intro wx hSw;(try dsimp only at hSw);go_simp;try with_reducible rfl)
     try simp only [List.getElem_toArray,List.getElem_cons_zero,List.getElem_cons_succ,Act.put,List.setIfInBounds_toArray,List.set_cons_zero,List.set_cons_succ]
     refine wpAnyH_take (i:=6) (v:=?vb6) rfl (by kernel_rfl) (by kernel_rfl) (by kernel_rfl) (fun _ _ _ h=>h) (Or.inl ⟨by rfl,?yb6⟩) (by assumption) ?rb6
     case yb6=>(intro wx hSw;(try dsimp only at hSw);go_simp;try with_reducible rfl)
     try simp only [List.getElem_toArray,List.getElem_cons_zero,List.getElem_cons_succ,Act.put,List.setIfInBounds_toArray,List.set_cons_zero,List.set_cons_succ]
     refine wpAnyH_take (i:=7) (v:=?vb7) rfl (by kernel_rfl) (by kernel_rfl) (by kernel_rfl) (fun _ _ _ h=>h) (Or.inl ⟨by rfl,?yb7⟩) (by assumption) ?rb7
     case yb7=>(intro wx hSw;(try dsimp only at hSw);go_simp;try with_reducible rfl)
     try simp only [List.getElem_toArray,List.getElem_cons_zero,List.getElem_cons_succ,Act.put,List.setIfInBounds_toArray,List.set_cons_zero,List.set_cons_succ]
     refine wpAnyH_take (i:=8) (v:=?vb8) rfl (by kernel_rfl) (by kernel_rfl) (by kernel_rfl) (fun _ _ _ h=>h) (Or.inl ⟨by rfl,?yb8⟩) (by assumption) ?rb8
     case yb8=>(intro wx hSw;(try dsimp only at hSw);go_simp;try with_reducible rfl)
     try simp only [List.getElem_toArray,List.getElem_cons_zero,List.getElem_cons_succ,Act.put,List.setIfInBounds_toArray,List.set_cons_zero,List.set_cons_succ]
     refine wpAnyH_take (i:=9) (v:=?vb9) rfl (by kernel_rfl) (by kernel_rfl) (by kernel_rfl) (fun _ _ _ h=>h) (Or.inl ⟨by rfl,?yb9⟩) (by assumption) ?rb9
     case yb9=>(intro wx hSw;(try dsimp only at hSw);go_simp;try with_reducible rfl)
     try simp only [List.getElem_toArray,List.getElem_cons_zero,List.getElem_cons_succ,Act.put,List.setIfInBounds_toArray,List.set_cons_zero,List.set_cons_succ]
     refine wpAnyH_take (i:=10) (v:=?vb10) rfl (by kernel_rfl) (by kernel_rfl) (by kernel_rfl) (fun _ _ _ h=>h) (Or.inl ⟨by rfl,?yb10⟩) (by assumption) ?rb10
     case yb10=>(intro wx hSw;(try dsimp only at hSw);go_simp;try with_reducible rfl)
     try simp only [List.getElem_toArray,List.getElem_cons_zero,List.getElem_cons_succ,Act.put,List.setIfInBounds_toArray,List.set_cons_zero,List.set_cons_succ]
     refine wpAnyH_take (i:=11) (v:=?vb11) rfl (by kernel_rfl) (by kernel_rfl) (by kernel_rfl) (fun _ _ _ h=>h) (Or.inl ⟨by rfl,?yb11⟩) (by assumption) ?rb11
     case yb11=>(intro wx hSw;(try dsimp only at hSw);go_simp;try with_reducible rfl)
     try simp only [List.getElem_toArray,List.getElem_cons_zero,List.getElem_cons_succ,Act.put,List.setIfInBounds_toArray,List.set_cons_zero,List.set_cons_succ]
     refine wpAnyH_take (i:=12) (v:=?vb12) rfl (by kernel_rfl) (by kernel_rfl) (by kernel_rfl) (fun _ _ _ h=>h) (Or.inl ⟨by rfl,?yb12⟩) (by assumption) ?rb12
     case yb12=>(intro wx hSw;(try dsimp only at hSw);go_simp;try with_reducible rfl)
     try simp only [List.getElem_toArray,List.getElem_cons_zero,List.getElem_cons_succ,Act.put,List.setIfInBounds_toArray,List.set_cons_zero,List.set_cons_succ]
     refine wpAnyH_take (i:=13) (v:=?vb13) rfl (by kernel_rfl) (by kernel_rfl) (by kernel_rfl) (fun _ _ _ h=>h) (Or.inl ⟨by rfl,?yb13⟩) (by assumption) ?rb13
     case yb13=>(intro wx hSw;(try dsimp only at hSw);go_simp;try with_reducible rfl)
     try simp only [List.getElem_toArray,List.getElem_cons_zero,List.getElem_cons_succ,Act.put,List.setIfInBounds_toArray,List.set_cons_zero,List.set_cons_succ]
     refine wpAnyH_ready (rs:=[4,14]) (by kernel_rfl) (by simp) (AllReadyH.cons rfl (fun K hK=>?oneb) (AllReadyH.cons rfl (fun K hK=>?twob) AllReadyH.nil))
     case' oneb=>
      go_simp
      refine hK.out _ _ ?_ (fun hHeld0=>?_)
      ·((try dsimp only);first | (refine ⟨?_,?_,?_,?_⟩ <;> assumption) | (refine ⟨?_,?_,?_,?_⟩ <;> (rw [World.cell?_of_block (Below.heap_setCell _ _ _ _ (by dsimp only;omega))];assumption)) | go_keep)
      clear hK K hHeld
      try simp only [List.getElem_toArray,List.getElem_cons_zero,List.getElem_cons_succ,Act.put,List.setIfInBounds_toArray,List.set_cons_zero,List.set_cons_succ]
      refine wpAnyH_ready (rs:=[14]) (by kernel_rfl) (by simp) (AllReadyH.cons rfl (fun K hK=>?_) AllReadyH.nil)
      go_simp
      refine hK.out _ _ ?_ (fun hHeld1=>?_)
      ·((try dsimp only);first | (refine ⟨?_,?_,?_,?_⟩ <;> assumption) | (refine ⟨?_,?_,?_,?_⟩ <;> (rw [World.cell?_of_block (Below.heap_setCell _ _ _ _ (by dsimp only;omega))];assumption)) | go_keep)
      clear hK K hHeld0
      try simp only [List.getElem_toArray,List.getElem_cons_zero,List.getElem_cons_succ,Act.put,List.setIfInBounds_toArray,List.set_cons_zero,List.set_cons_succ]
      refine wpAnyH_ready (rs:=[15]) (by kernel_rfl) (by simp) (AllReadyH.cons rfl (fun K hK=>?_) AllReadyH.nil)
      (refine step_append_sl _ rfl _ _ 185 rfl 192 i1 _ 6 48 Tryz.underlying185 hj hy0 hy1 hy2 rfl (by decide) (.slice al_ k cl) R (by simp [Act.eval]) (((HS.out.alloc _).alloc _).drew) ⟨wr.heap.size+1,0,none⟩ 1 1 [[.int .i64 p.1,.int .i64 p.2.1,.int .i64 p.2.2.1,.int .i64 p.2.2.2,.int .i64 (-1),.int .i64 (-1)]] (by simp [Act.eval]) rfl (by decide) (by simp) (fun j u h=>cell_news2 wr _ #[.int .i64 p.1,.int .i64 p.2.1,.int .i64 p.2.2.1,.int .i64 p.2.2.2,.int .i64 (-1),.int .i64 (-1)] 192 j u (by simpa using h)) (fun u hu=>(List.all_eq_true.1 (show ([[.int .i64 p.1,.int .i64 p.2.1,.int .i64 p.2.2.1,.int .i64 p.2.2.2,.int .i64 (-1),.int .i64 (-1)]].flatten).all (·.oneCell')=true from rfl)) u hu) (by have:=hRl.out;unfold maxLen;omega) (by have:=hRl.out;omega) ?_;intro a4 c4 w4 G4;have hb4:Hid (w4.heap[w1.heap.size]? = some (.cells (kc vt vp (.slice al_ k cl) sp fr0 0 nT) 188 (0,0))):=(G4.old (by simp;omega) HQ.out).trans (((((Fr.refl (fun _=>False) wr).alloc _).alloc _).drew.block _ ly id).trans hy.out);have hc4:w4.cell? ⟨w1.heap.size,3,none⟩=some (.slice al_ k cl):=(cell_of_row w4 _ 3 _ _ _ hb4.out).trans rfl;have hf4:w4.frozen? ⟨w1.heap.size,3,none⟩=false:=frozen_of_row _ _ _ _ _ hb4.out;have hl4:Hid (w4.heap[wr.heap.size]? = some (.cells #[.int .i64 p.1,.int .i64 p.2.1,.int .i64 p.2.2.1,.int .i64 p.2.2.2] 67 (0,0))):=(G4.old (by simp;omega) (fun h=>absurd (HS.out.lt h) (Nat.lt_irrefl _))).trans (heap_alloc2_old wr _ _);have h5:w4.cell? ⟨wr.heap.size,0,none⟩=some (.int .i64 p.1):=(cell_of_row w4 _ 0 _ _ _ hl4.out).trans rfl;have h6:w4.cell? ⟨wr.heap.size,1,none⟩=some (.int .i64 p.2.1):=(cell_of_row w4 _ 1 _ _ _ hl4.out).trans rfl;have h7:w4.cell? ⟨wr.heap.size,2,none⟩=some (.int .i64 p.2.2.1):=(cell_of_row w4 _ 2 _ _ _ hl4.out).trans rfl;have h8:w4.cell? ⟨wr.heap.size,3,none⟩=some (.int .i64 p.2.2.2):=(cell_of_row w4 _ 3 _ _ _ hl4.out).trans rfl)
      refine hK.out _ _ ?_ (fun hHeld2=>?_)
      ·((try dsimp only);first | (refine ⟨?_,?_,?_,?_⟩ <;> assumption) | (refine ⟨?_,?_,?_,?_⟩ <;> (rw [World.cell?_of_block (Below.heap_setCell _ _ _ _ (by dsimp only;omega))];assumption)) | go_keep)
      clear hK K hHeld1
      try simp only [List.getElem_toArray,List.getElem_cons_zero,List.getElem_cons_succ,Act.put,List.setIfInBounds_toArray,List.set_cons_zero,List.set_cons_succ]
      refine wpAnyH_take (i:=16) (v:=?voneb16) rfl (by kernel_rfl) (by kernel_rfl) (by kernel_rfl) (fun _ _ _ h=>h) (Or.inl ⟨by rfl,?yoneb16⟩) (by assumption) ?roneb16
      case yoneb16=>(intro wx hSw;(try dsimp only at hSw);go_simp;try with_reducible rfl)
      try simp only [List.getElem_toArray,List.getElem_cons_zero,List.getElem_cons_succ,Act.put,List.setIfInBounds_toArray,List.set_cons_zero,List.set_cons_succ]
      refine wpAnyH_take (i:=17) (v:=?voneb17) rfl (by kernel_rfl) (by kernel_rfl) (by kernel_rfl) (fun _ _ _ h=>h) (Or.inl ⟨by rfl,?yoneb17⟩) (by assumption) ?roneb17
      case yoneb17=>(intro wx hSw;(try dsimp only at hSw);go_simp;try with_reducible rfl)
      try simp only [List.getElem_toArray,List.getElem_cons_zero,List.getElem_cons_succ,Act.put,List.setIfInBounds_toArray,List.set_cons_zero,List.set_cons_succ]
      refine wpAnyH_ready (rs:=[18]) (by kernel_rfl) (by simp) (AllReadyH.cons rfl (fun K hK=>?_) AllReadyH.nil)
      go_simp
      refine hK.out _ _ ?_ (fun hHeld3=>?_)
      ·((try dsimp only);first | (refine ⟨?_,?_,?_,?_⟩ <;> assumption) | (refine ⟨?_,?_,?_,?_⟩ <;> (rw [World.cell?_of_block (Below.heap_setCell _ _ _ _ (by dsimp only;omega))];assumption)) | go_keep)
      clear hK K hHeld2
      try simp only [List.getElem_toArray,List.getElem_cons_zero,List.getElem_cons_succ,Act.put,List.setIfInBounds_toArray,List.set_cons_zero,List.set_cons_succ]
      refine wpAnyH_done (by kernel_rfl) ?_ _
     case' twob=>
      go_simp
      refine hK.out _ _ ?_ (fun hHeld0=>?_)
      ·((try dsimp only);first | (refine ⟨?_,?_,?_,?_⟩ <;> assumption) | (refine ⟨?_,?_,?_,?_⟩ <;> (rw [World.cell?_of_block (Below.heap_setCell _ _ _ _ (by dsimp only;omega))];assumption)) | go_keep)
      clear hK K hHeld
      try simp only [List.getElem_toArray,List.getElem_cons_zero,List.getElem_cons_succ,Act.put,List.setIfInBounds_toArray,List.set_cons_zero,List.set_cons_succ]
      refine wpAnyH_ready (rs:=[4]) (by kernel_rfl) (by simp) (AllReadyH.cons rfl (fun K hK=>?_) AllReadyH.nil)
      go_simp
      refine hK.out _ _ ?_ (fun hHeld1=>?_)
      ·((try dsimp only);first | (refine ⟨?_,?_,?_,?_⟩ <;> assumption) | (refine ⟨?_,?_,?_,?_⟩ <;> (rw [World.cell?_of_block (Below.heap_setCell _ _ _ _ (by dsimp only;omega))];assumption)) | go_keep)
      clear hK K hHeld0
      try simp only [List.getElem_toArray,List.getElem_cons_zero,List.getElem_cons_succ,Act.put,List.setIfInBounds_toArray,List.set_cons_zero,List.set_cons_succ]
      refine wpAnyH_ready (rs:=[15]) (by kernel_rfl) (by simp) (AllReadyH.cons rfl (fun K hK=>?_) AllReadyH.nil)
      (refine step_append_sl _ rfl _ _ 185 rfl 192 i1 _ 6 48 Tryz.underlying185 hj hy0 hy1 hy2 rfl (by decide) (.slice al_ k cl) R (by simp [Act.eval]) (((HS.out.alloc _).alloc _).drew) ⟨wr.heap.size+1,0,none⟩ 1 1 [[.int .i64 p.1,.int .i64 p.2.1,.int .i64 p.2.2.1,.int .i64 p.2.2.2,.int .i64 (-1),.int .i64 (-1)]] (by simp [Act.eval]) rfl (by decide) (by simp) (fun j u h=>cell_news2 wr _ #[.int .i64 p.1,.int .i64 p.2.1,.int .i64 p.2.2.1,.int .i64 p.2.2.2,.int .i64 (-1),.int .i64 (-1)] 192 j u (by simpa using h)) (fun u hu=>(List.all_eq_true.1 (show ([[.int .i64 p.1,.int .i64 p.2.1,.int .i64 p.2.2.1,.int .i64 p.2.2.2,.int .i64 (-1),.int .i64 (-1)]].flatten).all (·.oneCell')=true from rfl)) u hu) (by have:=hRl.out;unfold maxLen;omega) (by have:=hRl.out;omega) ?_;intro a4 c4 w4 G4;have hb4:Hid (w4.heap[w1.heap.size]? = some (.cells (kc vt vp (.slice al_ k cl) sp fr0 0 nT) 188 (0,0))):=(G4.old (by simp;omega) HQ.out).trans (((((Fr.refl (fun _=>False) wr).alloc _).alloc _).drew.block _ ly id).trans hy.out);have hc4:w4.cell? ⟨w1.heap.size,3,none⟩=some (.slice al_ k cl):=(cell_of_row w4 _ 3 _ _ _ hb4.out).trans rfl;have hf4:w4.frozen? ⟨w1.heap.size,3,none⟩=false:=frozen_of_row _ _ _ _ _ hb4.out;have hl4:Hid (w4.heap[wr.heap.size]? = some (.cells #[.int .i64 p.1,.int .i64 p.2.1,.int .i64 p.2.2.1,.int .i64 p.2.2.2] 67 (0,0))):=(G4.old (by simp;omega) (fun h=>absurd (HS.out.lt h) (Nat.lt_irrefl _))).trans (heap_alloc2_old wr _ _);have h5:w4.cell? ⟨wr.heap.size,0,none⟩=some (.int .i64 p.1):=(cell_of_row w4 _ 0 _ _ _ hl4.out).trans rfl;have h6:w4.cell? ⟨wr.heap.size,1,none⟩=some (.int .i64 p.2.1):=(cell_of_row w4 _ 1 _ _ _ hl4.out).trans rfl;have h7:w4.cell? ⟨wr.heap.size,2,none⟩=some (.int .i64 p.2.2.1):=(cell_of_row w4 _ 2 _ _ _ hl4.out).trans rfl;have h8:w4.cell? ⟨wr.heap.size,3,none⟩=some (.int .i64 p.2.2.2):=(cell_of_row w4 _ 3 _ _ _ hl4.out).trans rfl)
      refine hK.out _ _ ?_ (fun hHeld2=>?_)
      ·((try dsimp only);first | (refine ⟨?_,?_,?_,?_⟩ <;> assumption) | (refine ⟨?_,?_,?_,?_⟩ <;> (rw [World.cell?_of_block (Below.heap_setCell _ _ _ _ (by dsimp only;omega))];assumption)) | go_keep)
      clear hK K hHeld1
      try simp only [List.getElem_toArray,List.getElem_cons_zero,List.getElem_cons_succ,Act.put,List.setIfInBounds_toArray,List.set_cons_zero,List.set_cons_succ]
      refine wpAnyH_take (i:=16) (v:=?vtwob16) rfl (by kernel_rfl) (by kernel_rfl) (by kernel_rfl) (fun _ _ _ h=>h) (Or.inl ⟨by rfl,?ytwob16⟩) (by assumption) ?rtwob16
      case ytwob16=>(intro wx hSw;(try dsimp only at hSw);go_simp;try with_reducible rfl)
      try simp only [List.getElem_toArray,List.getElem_cons_zero,List.getElem_cons_succ,Act.put,List.setIfInBounds_toArray,List.set_cons_zero,List.set_cons_succ]
      refine wpAnyH_take (i:=17) (v:=?vtwob17) rfl (by kernel_rfl) (by kernel_rfl) (by kernel_rfl) (fun _ _ _ h=>h) (Or.inl ⟨by rfl,?ytwob17⟩) (by assumption) ?rtwob17
      case ytwob17=>(intro wx hSw;(try dsimp only at hSw);go_simp;try with_reducible rfl)
      try simp only [List.getElem_toArray,List.getElem_cons_zero,List.getElem_cons_succ,Act.put,List.setIfInBounds_toArray,List.set_cons_zero,List.set_cons_succ]
      refine wpAnyH_ready (rs:=[18]) (by kernel_rfl) (by simp) (AllReadyH.cons rfl (fun K hK=>?_) AllReadyH.nil)
      go_simp
      refine hK.out _ _ ?_ (fun hHeld3=>?_)
      ·((try dsimp only);first | (refine ⟨?_,?_,?_,?_⟩ <;> assumption) | (refine ⟨?_,?_,?_,?_⟩ <;> (rw [World.cell?_of_block (Below.heap_setCell _ _ _ _ (by dsimp only;omega))];assumption)) | go_keep)
      clear hK K hHeld2
      try simp only [List.getElem_toArray,List.getElem_cons_zero,List.getElem_cons_succ,Act.put,List.setIfInBounds_toArray,List.set_cons_zero,List.set_cons_succ]
      refine wpAnyH_done (by kernel_rfl) ?_ _
     all_goals
      go_wp2
      have F4:Fr (fun q=>Value.ownBlock (.slice al_ k cl)=some q) wr w4:=G4.fr ((((Fr.refl _ wr).alloc _).alloc _).drew) (fun q hq' _=>hq')
      have F5:Fr (fun q=>q=w1.heap.size) w4 (w4.setCell ⟨w1.heap.size,3,none⟩ (.slice a4 (R.length+1) c4)):=(Fr.refl (fun q=>q=w1.heap.size) w4).setCell (p:=⟨w1.heap.size,3,none⟩) (fun _=>rfl) _
      have ub:Hid (∀ q,Value.ownBlock (.slice a4 (R.length+1) c4)=some q->w1.heap.size < q/\vt.ownBlock≠some q/\vp.ownBlock≠some q):=fun q hq'=>by
       rcases G4.at_ q hq' with h | h
       ·have h2:wr.heap.size+1+1<=q:=by simpa using h
        exact ⟨by omega,fun h3=>by have:=HH.out.2.2.lt h3;omega,fun h3=>by have:=HH.out.2.1.lt h3;omega⟩
       ·exact hql.out q h
      have eR:(L.take (k+1)).map lRow=R ++ [lRow p]:=by
       rw [List.take_succ_eq_append_getElem (by have:=(List.getElem?_eq_some_iff.1 HP.out).1;omega),List.map_append,HR.out,(List.getElem?_eq_some_iff.1 HP.out).2];rfl
      first
       | refine ⟨⟨k+1,.slice a4 (R.length+1) c4,by omega,by go_num,heap_setCell_same w4 _ 3 _ _ _ hb4.out,?_,?_,?_,ub,?_⟩,by simp [intOf];omega⟩
       | (
        go_roundw
        case measure=>simp [intOf];omega
        case rel=>refine ⟨k+1,.slice a4 (R.length+1) c4,by omega,by go_num,heap_setCell_same w4 _ 3 _ _ _ hb4.out,?_,?_,?_,ub,?_⟩)
      ·rw [eR]
       exact G4.sl.kept F5 (fun q hq' h=>by have:=(ub.out q hq').1;omega)
      ·exact (HH.out.2.1.kept F4 (fun q hq' h=>(hql.out q h).2.2 hq')).kept F5 (fun q hq' h=>by have:=(hqp.out q hq').1;omega)
      ·exact (HH.out.2.2.kept F4 (fun q hq' h=>(hql.out q h).2.1 hq')).kept F5 (fun q hq' h=>by have:=hq.out q hq';omega)
      ·exact (HH.out.1.trans (F4.to_below HH.out.1.size (fun q h=>by have:=(hql.out q h).1;omega))).trans (F5.to_below (by have:=F4.size;omega) (fun q h=>by omega))
    ·have ek:L.take k=L:=List.take_of_length_le (by have:=HN.out.2.2;omega)
     rw [ek] at hs
     have ST:=hid (And.intro hs (And.intro hsp hst))
     have HWe:=hid hw
     clear hs ek hbl hsp hst hw
     go_wp2
     go_ret2
     have hbw:Below w.heap.size w wr:=((Below.refl _ w).alloc (Nat.le_refl _) _).trans ((HB.out.mono (by simp)).trans (HWe.out.mono (by omega)))
     refine ⟨w1.heap.size,vt,vp,vl,rfl,⟨?_,ST.out.2.2,ST.out.2.1,ST.out.1,fun h=>by have:=hq.out _ h;omega,fun h=>by have:=(hqp.out _ h).1;omega,fun h=>by have:=(hql.out _ h).1;omega,fun q h=>⟨fun h2=>(hqp.out q h2).2 h,fun h2=>(hql.out q h2).2.1 h⟩,fun q h h2=>(hql.out q h2).2.2 h⟩,hbw,by omega,fun q h=>?_⟩
     ·have h:=hy.out
      rw [show ((nT:Nat):Int)=((T.length:Nat):Int) by rw [HN.out.1]] at h
      exact h
     ·rcases h with h | h | h
      ·have:=hq.out q h;omega
      ·have:=(hqp.out q h).1;omega
      ·have:=(hql.out q h).1;omega
open Go.RowKit
def IxOf (L:List (Int×Int×Int×Int)) (s n r:Int):Prop:=
 (r=-1/\∀ (i:Nat) p,L[i]? = some p->¬ (p.1=s/\p.2.1=n))\/∃ (i:Nat) (p:Int×Int×Int×Int),r=i/\L[i]? = some p/\p.1=s/\p.2.1=n
theorem ix_step {L:List (Int×Int×Int×Int)}{s n:Int}{k:Nat}{p:Int×Int×Int×Int}(h:Hid (∀ (i:Nat) p,i < k->L[i]? = some p->¬ (p.1=s/\p.2.1=n))) (hp:L[k]? = some p) (hn:¬ (p.1=s/\p.2.1=n)) :
  Hid (∀ (i:Nat) p,i < k+1->L[i]? = some p->¬ (p.1=s/\p.2.1=n)):=fun i q hi hq=>by
 by_cases e:i < k
 ·exact h.out i q e hq
 ·have:i=k:=by omega
  subst this
  rw [hp] at hq
  cases hq
  exact hn
end Go.Proofs.YteejjgbeknnmeaaGreatDoor
