import Derived.Test.YteejjgbeknnmeaaGreatDoorJ17
set_option maxRecDepth 100000
set_option maxHeartbeats 20000000
namespace Go.Proofs.YteejjgbeknnmeaaGreatDoor
open Go.RowKit
section
variable (B:Bk) (S:Nat->Prop) (M:PM) (K:RM) (b t:Nat) (u:Th) (p:PT) (a j:Nat) (x y:Int) (w:World)
theorem send_no (h:PRep w B S M) (R:Rel (only t) M K) (ft:K.Fit) (nm:K.Num b) (hu:K.threads[t]? = some u) (s1:u.st=1) (hp:M.threads[t]? = some p) (ha:p.sp=a) (hj:j < 6) (hx:pb (findQ M.passes a j)=x) (hy:pa (findQ M.passes a j)=y) (hno:(bits .and .i64 x 1 == 1)=false\/y=t) :
  Calls Tryz.prog 86 #[.pointer (some ⟨B.x,0,none⟩),.int .i64 t,.int .i64 j] w fun e w'=>e=.returned (.tuple #[])/\KLeft B S none_ (K.over t 4) w w':=by
 have fa:=ft.th t u hu
 have RT:=R.th t u p hu hp
 have han:a < M.sp.toNat:=by rw [R.sp];have:=fa.s0;have:=fa.s1;have:=RT.sp;omega
 have HE:Hid (∀ w1,PRep w1 B S M->_):=fun w1 h1=>end_rel B S (only t) M K 0 b 4 t u true w1 h1 R ft nm hu (.inr rfl) ⟨fun _=>s1,fun _=>rfl⟩
 simp only [if_true] at HE
 have e0:Hid (∀ i,none_ i↔Wo (only t) t i):=fun i=>⟨fun h=>h.elim,fun h=>h.2 h.1⟩
 have h6:=R.six ft
 have htl:=(List.getElem?_eq_some_iff.1 hp).1
 have HH:=hid h
 obtain ⟨cs,rv,sl,at_,hS⟩:=h
 obtain ⟨s0,hs0⟩:=at_.sl_get hp
 have hc1:=(at_.cell 1).trans at_.c1
 have hc6:=(at_.cell 6).trans at_.c6
 have k0:=(at_.tcell hp hs0 0 (by omega)).trans (show (prow p s0)[0]? = some (.int .i64 p.sp) from rfl)
 rw [ha] at k0
 simp only [Nat.add_zero] at k0
 have q0:=(at_.slotC (s:=a) (j:=j) han hj).1
 have q1:=(at_.slotC (s:=a) (j:=j) han hj).2
 rw [hy] at q0
 rw [hx] at q1
 have lx:=at_.lx
 have lg:=at_.lg
 have lgs:=at_.ls
 have HW:=hid (HE.out (w.alloc (.cells #[.int .i64 y,.int .i64 x] 228)).drew (HH.out.kept (((Fr.refl (fun _=>False) w).alloc _).drew) (fun _ _ h=>h)))
 have FW:Hid (Fr S w (w.alloc (.cells #[.int .i64 y,.int .i64 x] 228)).drew):=((Fr.refl _ w).alloc _).drew
 generalize hm:M.threads.length=m at *
 generalize hm2:M.sp.toNat=m2 at *
 have ht':(t:Int) < (m:Int):=by omega
 have ha':(a:Int) < (m2:Int):=by omega
 have hj':(j:Int) < 6:=by omega
 clear HE HH at_ hs0 hS hp hx hy hm hm2 R ft nm hu RT fa
 have fin:Hid (∀ w',KLeft B S (Wo (only t) t) (K.over t 4) (w.alloc (.cells #[.int .i64 y,.int .i64 x] 228)).drew w'->KLeft B S none_ (K.over t 4) w w'):=by
  rintro w' ⟨M',⟨⟨S',h',o'⟩,F'⟩,R'⟩
  exact ⟨M',⟨⟨S',h',fun i hi=>(o' i hi).imp id (fun e=>by simp [World.drew] at e;omega)⟩,FW.out.trans F'⟩,R'.acts e0.out⟩
 clear FW e0
 by_cases d:(bits .and .i64 x 1 == 1)=false
 ·clear hno
  go_enter Tryz.func86,Tryz.ntmps86
  go_wp2
  go_region
  go_wp2_with (first
   | (go_at_call 137;refine (coreHolds_any _ _ _).mono ?_;rintro e w2 ⟨rfl,rfl⟩;rw [d])
   | (go_at_call 125;refine HW.out.mono ?_;rintro e w3 ⟨rfl,L⟩;replace L:=hid L))
  ((try simp only [Exit.inBlock,Exit.then]);refine bodyPost_ret (results_none rfl _ _ _) rfl ?_)
  exact ⟨rfl,fin.out _ L.out⟩
 ·have d':(bits .and .i64 x 1 == 1)=true:=by simpa using d
  have hyt:y=t:=hno.resolve_left d
  subst hyt
  clear hno d
  go_enter Tryz.func86,Tryz.ntmps86
  go_wp2
  go_region
  go_wp2_with (first
   | (go_at_call 137;refine (coreHolds_any _ _ _).mono ?_;rintro e w2 ⟨rfl,rfl⟩;rw [d'])
   | (go_at_call 125;refine HW.out.mono ?_;rintro e w3 ⟨rfl,L⟩;replace L:=hid L))
  ((try simp only [Exit.inBlock,Exit.then]);refine bodyPost_ret (results_none rfl _ _ _) rfl ?_)
  exact ⟨rfl,fin.out _ L.out⟩
theorem send_yes (r:Nat) (m:Ms) (bl:Bool) (h:PRep w B S M) (R:Rel (only t) M K) (ft:K.Fit) (nm:K.Num b) (hu:K.threads[t]? = some u) (s1:u.st=1) (hp:M.threads[t]? = some p) (ha:p.sp=a) (hj:j < 6) (hx:pb (findQ M.passes a j)=x) (hy:pa (findQ M.passes a j)=r) (hyes:(bits .and .i64 x 1 == 1)=true) (hbl:(bits .and .i64 x 2 == 2)=bl)
  (hrt:r≠t) (hr:r < K.threads.length) (par:p.pw=u.mw/\p.item=u.item/\p.rt=u.rt/\-1<=u.item/\u.item<=5) (hw:u.wait=m.wait) :
  Calls Tryz.prog 86 #[.pointer (some ⟨B.x,0,none⟩),.int .i64 t,.int .i64 j] w fun e w'=>e=.returned (.tuple #[])/\KLeft B S none_ ((K.lendsTo t bl).sends t r m) w w':=by
 have fa:=ft.th t u hu
 have RT:=R.th t u p hu hp
 have han:a < M.sp.toNat:=by rw [R.sp];have:=fa.s0;have:=fa.s1;have:=RT.sp;omega
 have h6:=R.six ft
 have htl:=(List.getElem?_eq_some_iff.1 hp).1
 have hrl:r < M.threads.length:=by rw [R.len];exact hr
 have HH:=hid (And.intro h (And.intro R (And.intro ft (And.intro nm (And.intro hu (And.intro s1 (And.intro hp (And.intro par (And.intro hw hr)))))))))
 obtain ⟨cs,rv,sl,at_,hS⟩:=h
 obtain ⟨s0,hs0⟩:=at_.sl_get hp
 have hc1:=(at_.cell 1).trans at_.c1
 have hc6:=(at_.cell 6).trans at_.c6
 have k0:=(at_.tcell hp hs0 0 (by omega)).trans (show (prow p s0)[0]? = some (.int .i64 p.sp) from rfl)
 have k10:=(at_.tcell hp hs0 10 (by omega)).trans (show (prow p s0)[10]? = some (.int .i64 p.item) from rfl)
 have fg:=at_.tfro
 rw [ha] at k0
 simp only [Nat.add_zero] at k0
 have q0:=(at_.slotC (s:=a) (j:=j) han hj).1
 have q1:=(at_.slotC (s:=a) (j:=j) han hj).2
 rw [hy] at q0
 rw [hx] at q1
 have lx:=at_.lx
 have lg:=at_.lg
 have lgs:=at_.ls
 have hgx:=at_.n1.1
 have HA:=hid (And.intro at_ (And.intro hs0 hS))
 generalize hm:M.threads.length=mm at *
 generalize hm2:M.sp.toNat=m2 at *
 have HM:=hid hm
 have ht':(t:Int) < (mm:Int):=by omega
 have hr':(r:Int) < (mm:Int):=by omega
 have ha':(a:Int) < (m2:Int):=by omega
 have hj':(j:Int) < 6:=by omega
 have hrt':((r:Int) == (t:Int))=false:=by simp;omega
 clear at_ hs0 hS hp hx hy hm hm2 R ft nm hu RT fa par hw
 cases bl with
 | true=>
  have hb2:(bits .and .i64 x 2 == 2)=true:=hbl
  go_enter Tryz.func86,Tryz.ntmps86
  go_wp2
  go_region
  go_wp2_with (go_at_call 137;first
   | (refine (coreHolds_any x 1 _).mono ?_;rintro e w2 ⟨rfl,rfl⟩;rw [hyes])
   | (refine (coreHolds_any x 2 _).mono ?_;rintro e w2 ⟨rfl,rfl⟩;rw [hb2]))
  go_cut [8] (fun t8 wc=>t8=.pointer (some ⟨B.g,r*17,none⟩)/\Hid (PRep wc B S (lentP true M t)/\wc.heap[w.heap.size]? = some (.cells #[.int .i64 r,.int .i64 x] 228 (0,0))/\Fr S w wc))
  case first=>
   go_region
   go_wp2
   go_meet
   case rel=>
    exact ⟨rfl,(HH.out.1.kept (((Fr.refl (fun _=>False) w).alloc _).drew) (fun _ _ h=>h)).drew,heap_alloc_new w _,(((Fr.refl S w).alloc _).drew).drew⟩
  case rest=>
   obtain ⟨rfl,HC⟩:=hcut
   have R2:Rel (only t) (lentP true M t) (K.lendsTo t true):=lentR HH.out.2.1 HH.out.2.2.2.2.1 true
   obtain ⟨p2,hp2,e2,par2⟩:=lentPar (bl:=true) (u:=u) HH.out.2.2.2.2.2.2.1 HH.out.2.2.2.2.2.2.2.1
   have hu2:(K.lendsTo t true).threads[t]? = some { u with lends:=true }:=get_modify _ HH.out.2.2.2.2.1
   obtain ⟨c,hcK⟩:∃ c,K.threads[r]? = some c:=⟨_,List.getElem?_eq_getElem HH.out.2.2.2.2.2.2.2.2.2⟩
   have hc2:(K.lendsTo t true).threads[r]? = some c:=by show (K.threads.modify t _)[r]? = _;rw [modify_other _ hrt];exact hcK
   have ES:(K.lendsTo t true).sends t r m=if c.st=3/\(c.frm=-1\/c.frm=t) then (((K.lendsTo t true).deliver t r).toFirst r).goes 7 t true else if m.wait=0 then (K.lendsTo t true).over t 5 else (K.lendsTo t true).waits t 2 r:=by unfold RM.sends;rw [hc2]
   have X:=sendRest B S (lentP true M t) (K.lendsTo t true) b t r { u with lends:=true } c p2 wc HC.out.1 R2 (lends_fit HH.out.2.2.1 t true) (num_clo.lendsTo b K t true HH.out.2.2.2.1) hu2 s1 hp2 par2 hc2 hrt
   obtain ⟨q,hq,k3,k12,k14,hc1c,fgc,h6c,eA,eB,eC⟩:=X
   have k14':wc.cell? ⟨B.g,t*17+14,none⟩=some (.int .i64 m.wait):=by rw [<- HH.out.2.2.2.2.2.2.2.2.1];exact k14
   have y0:wc.cell? ⟨w.heap.size,0,none⟩=some (.int .i64 r):=(cell_of_row wc _ 0 _ _ _ HC.out.2.1).trans rfl
   have lbw:w.heap.size < wc.heap.size:=(Array.getElem?_eq_some_iff.1 HC.out.2.1).1
   have hbg:w.heap.size≠B.g:=by omega
   have EA:=hid eA
   have EB:=hid eB
   have EC:=hid eC
   obtain ⟨KS,hKS⟩:∃ KS,(K.lendsTo t true).sends t r m=KS:=⟨_,rfl⟩
   rw [hKS] at ES
   obtain ⟨cst,hcst⟩:∃ cst,c.st=cst:=⟨_,rfl⟩
   obtain ⟨qf,hqf⟩:∃ qf,q.frm=qf:=⟨_,rfl⟩
   rw [hcst] at k3 ES
   rw [hqf] at k12
   have k8:∃ v8,wc.cell? ⟨B.g,t*17+8,none⟩=some v8:=by
    obtain ⟨cs3,rv3,sl3,at3,_⟩:=HC.out.1
    obtain ⟨s3,hs3⟩:=at3.sl_get hp2
    exact ⟨_,(at3.tcell hp2 hs3 8 (by omega)).trans rfl⟩
   obtain ⟨v8,k8⟩:=k8
   have XX:=hid (And.intro hcst (And.intro hqf hKS))
   clear R2 hp2 e2 par2 hu2 hcK hc2 hq k14 hc1c eA eB eC hKS hqf
   have goalK:Hid (∀ w',KLeft B S none_ KS w w'->KLeft B S none_ ((K.lendsTo t true).sends t r m) w w'):=fun w' h=>by rw [XX.out.2.2];exact h
   replace ES:=hid ES
   by_cases c3:cst=3
   ·have d3:(cst == 3)=true:=by simpa using c3
    obtain ⟨ef,eA⟩:=EA.out (XX.out.1.trans c3)
    cases hd:hearsB qf t with
    | true=>
     have EK:=hid (ES.out.trans (if_pos ⟨c3,by
      have h1:hearsB q.frm t=true:=by rw [XX.out.2.1];exact hd
      rw [ef] at h1
      simpa [hearsB] using h1⟩))
     have ED:=hid eA
     clear EB EC EA eA ES c3 ef
     go_wp2_with (first | (go_at_call 133;refine (hears_any B.g (r*17+8) qf t _ k12).mono ?_;rintro e w2 ⟨rfl,rfl⟩;rw [hd]) | (go_at_call 134;refine ED.out.mono ?_;rintro e w3 ⟨rfl,S3,C3⟩;replace C3:=hid C3.2.2) | (go_at_call 135;refine C3.out.mono ?_;rintro e w4 ⟨rfl,L⟩;replace L:=hid L))
     ((try simp only [Exit.inBlock,Exit.then]);refine bodyPost_ret (results_none rfl _ _ _) rfl ?_)
     exact ⟨rfl,goalK.out _ (by rw [EK.out];exact KLeft.from HC.out.2.2 L.out)⟩
    | false=>
     have EN:=hid (ES.out.trans (if_neg (fun e=>by
      have h1:hearsB q.frm t=false:=by rw [XX.out.2.1];exact hd
      rw [ef] at h1
      simp [hearsB] at h1
      omega)))
     clear eA ES c3 ef
     by_cases qw:m.wait=0
     ·have dw:(m.wait == 0)=true:=by simpa using qw
      have EK:=hid (EN.out.trans (if_pos qw))
      clear qw EA EC
      go_wp2_with (first | (go_at_call 133;refine (hears_any B.g (r*17+8) qf t _ k12).mono ?_;rintro e w2 ⟨rfl,rfl⟩;rw [hd]) | (go_at_call 125;refine EB.out.mono ?_;rintro e w4 ⟨rfl,L⟩;replace L:=hid L))
      ((try simp only [Exit.inBlock,Exit.then]);refine bodyPost_ret (results_none rfl _ _ _) rfl ?_)
      exact ⟨rfl,goalK.out _ (by rw [EK.out];exact KLeft.from HC.out.2.2 L.out)⟩
     ·have dw:(m.wait == 0)=false:=by simpa using qw
      have EK:=hid (EN.out.trans (if_neg qw))
      clear qw EA EB
      go_wp2_with (first | (go_at_call 133;refine (hears_any B.g (r*17+8) qf t _ k12).mono ?_;rintro e w2 ⟨rfl,rfl⟩;rw [hd]) | (go_at_call 131;refine (EC.out _ rfl).mono ?_;rintro e w3 ⟨rfl,C3⟩;replace C3:=hid C3) | (go_at_call 136;refine C3.out.mono ?_;rintro e w4 ⟨rfl,L⟩;replace L:=hid L))
      go_end0
      exact ⟨rfl,goalK.out _ (by rw [EK.out];exact KLeft.from HC.out.2.2 L.out)⟩
   ·have d3:(cst == 3)=false:=by simpa using c3
    have EN:=hid (ES.out.trans (if_neg (fun e=>c3 e.1)))
    clear ES c3
    by_cases qw:m.wait=0
    ·have dw:(m.wait == 0)=true:=by simpa using qw
     have EK:=hid (EN.out.trans (if_pos qw))
     clear qw EA EC
     go_wp2_with (first | (go_at_call 125;refine EB.out.mono ?_;rintro e w4 ⟨rfl,L⟩;replace L:=hid L))
     ((try simp only [Exit.inBlock,Exit.then]);refine bodyPost_ret (results_none rfl _ _ _) rfl ?_)
     exact ⟨rfl,goalK.out _ (by rw [EK.out];exact KLeft.from HC.out.2.2 L.out)⟩
    ·have dw:(m.wait == 0)=false:=by simpa using qw
     have EK:=hid (EN.out.trans (if_neg qw))
     clear qw EA EB
     go_wp2_with (first | (go_at_call 131;refine (EC.out _ rfl).mono ?_;rintro e w3 ⟨rfl,C3⟩;replace C3:=hid C3) | (go_at_call 136;refine C3.out.mono ?_;rintro e w4 ⟨rfl,L⟩;replace L:=hid L))
     go_end0
     exact ⟨rfl,goalK.out _ (by rw [EK.out];exact KLeft.from HC.out.2.2 L.out)⟩
 | false=>
  have hb2:(bits .and .i64 x 2 == 2)=false:=hbl
  go_enter Tryz.func86,Tryz.ntmps86
  go_wp2
  go_region
  go_wp2_with (go_at_call 137;first
   | (refine (coreHolds_any x 1 _).mono ?_;rintro e w2 ⟨rfl,rfl⟩;rw [hyes])
   | (refine (coreHolds_any x 2 _).mono ?_;rintro e w2 ⟨rfl,rfl⟩;rw [hb2]))
  go_cut [8] (fun t8 wc=>t8=.pointer (some ⟨B.g,r*17,none⟩)/\Hid (PRep wc B S (lentP false M t)/\wc.heap[w.heap.size]? = some (.cells #[.int .i64 r,.int .i64 x] 228 (0,0))/\Fr S w wc))
  case first=>
   go_region
   go_wp2
   go_meet
   case rel=>
    have A:=HA.out.1.setTh (t:=t) (j:=10) (fun p=>{ p with item:=-1 }) (.int .i64 (-1)) HH.out.2.2.2.2.2.2.1 HA.out.2.1 (by omega) rfl rfl rfl rfl
    have hm:=HM.out
    subst hm
    refine ⟨rfl,⟨cs,rv,sl,((A.1.alloc _).drew).drew,fun k=>by rw [HA.out.2.2 k];rw [show (lentP false M t).threads.length=M.threads.length by simp [lentP,PM.upd]]⟩,?_,((((A.2.mono (fun k _ e=>(HA.out.2.2 k).2 (.inl (.inr (.inl e))))).alloc _).drew).drew)⟩
    have z:w.heap.size=(w.setCell ⟨B.g,t*17+8+1+1,none⟩ (.int .i64 (-1))).heap.size:=by simp [World.setCell]
    rw [show (((w.setCell ⟨B.g,t*17+8+1+1,none⟩ (.int .i64 (-1))).alloc (.cells #[.int .i64 r,.int .i64 x] 228)).drew.drew).heap[w.heap.size]? = ((w.setCell ⟨B.g,t*17+8+1+1,none⟩ (.int .i64 (-1))).alloc (.cells #[.int .i64 r,.int .i64 x] 228)).heap[w.heap.size]? from rfl,z]
    exact heap_alloc_new _ _
  case rest=>
   obtain ⟨rfl,HC⟩:=hcut
   have R2:Rel (only t) (lentP false M t) (K.lendsTo t false):=lentR HH.out.2.1 HH.out.2.2.2.2.1 false
   obtain ⟨p2,hp2,e2,par2⟩:=lentPar (bl:=false) (u:=u) HH.out.2.2.2.2.2.2.1 HH.out.2.2.2.2.2.2.2.1
   have hu2:(K.lendsTo t false).threads[t]? = some { u with lends:=false }:=get_modify _ HH.out.2.2.2.2.1
   obtain ⟨c,hcK⟩:∃ c,K.threads[r]? = some c:=⟨_,List.getElem?_eq_getElem HH.out.2.2.2.2.2.2.2.2.2⟩
   have hc2:(K.lendsTo t false).threads[r]? = some c:=by show (K.threads.modify t _)[r]? = _;rw [modify_other _ hrt];exact hcK
   have ES:(K.lendsTo t false).sends t r m=if c.st=3/\(c.frm=-1\/c.frm=t) then (((K.lendsTo t false).deliver t r).toFirst r).goes 7 t true else if m.wait=0 then (K.lendsTo t false).over t 5 else (K.lendsTo t false).waits t 2 r:=by unfold RM.sends;rw [hc2]
   have X:=sendRest B S (lentP false M t) (K.lendsTo t false) b t r { u with lends:=false } c p2 wc HC.out.1 R2 (lends_fit HH.out.2.2.1 t false) (num_clo.lendsTo b K t false HH.out.2.2.2.1) hu2 s1 hp2 par2 hc2 hrt
   obtain ⟨q,hq,k3,k12,k14,hc1c,fgc,h6c,eA,eB,eC⟩:=X
   have k14':wc.cell? ⟨B.g,t*17+14,none⟩=some (.int .i64 m.wait):=by rw [<- HH.out.2.2.2.2.2.2.2.2.1];exact k14
   have y0:wc.cell? ⟨w.heap.size,0,none⟩=some (.int .i64 r):=(cell_of_row wc _ 0 _ _ _ HC.out.2.1).trans rfl
   have lbw:w.heap.size < wc.heap.size:=(Array.getElem?_eq_some_iff.1 HC.out.2.1).1
   have hbg:w.heap.size≠B.g:=by omega
   have EA:=hid eA
   have EB:=hid eB
   have EC:=hid eC
   obtain ⟨KS,hKS⟩:∃ KS,(K.lendsTo t false).sends t r m=KS:=⟨_,rfl⟩
   rw [hKS] at ES
   obtain ⟨cst,hcst⟩:∃ cst,c.st=cst:=⟨_,rfl⟩
   obtain ⟨qf,hqf⟩:∃ qf,q.frm=qf:=⟨_,rfl⟩
   rw [hcst] at k3 ES
   rw [hqf] at k12
   have k8:∃ v8,wc.cell? ⟨B.g,t*17+8,none⟩=some v8:=by
    obtain ⟨cs3,rv3,sl3,at3,_⟩:=HC.out.1
    obtain ⟨s3,hs3⟩:=at3.sl_get hp2
    exact ⟨_,(at3.tcell hp2 hs3 8 (by omega)).trans rfl⟩
   obtain ⟨v8,k8⟩:=k8
   have XX:=hid (And.intro hcst (And.intro hqf hKS))
   clear R2 hp2 e2 par2 hu2 hcK hc2 hq k14 hc1c eA eB eC hKS hqf
   have goalK:Hid (∀ w',KLeft B S none_ KS w w'->KLeft B S none_ ((K.lendsTo t false).sends t r m) w w'):=fun w' h=>by rw [XX.out.2.2];exact h
   replace ES:=hid ES
   by_cases c3:cst=3
   ·have d3:(cst == 3)=true:=by simpa using c3
    obtain ⟨ef,eA⟩:=EA.out (XX.out.1.trans c3)
    cases hd:hearsB qf t with
    | true=>
     have EK:=hid (ES.out.trans (if_pos ⟨c3,by
      have h1:hearsB q.frm t=true:=by rw [XX.out.2.1];exact hd
      rw [ef] at h1
      simpa [hearsB] using h1⟩))
     have ED:=hid eA
     clear EB EC EA eA ES c3 ef
     go_wp2_with (first | (go_at_call 133;refine (hears_any B.g (r*17+8) qf t _ k12).mono ?_;rintro e w2 ⟨rfl,rfl⟩;rw [hd]) | (go_at_call 134;refine ED.out.mono ?_;rintro e w3 ⟨rfl,S3,C3⟩;replace C3:=hid C3.2.2) | (go_at_call 135;refine C3.out.mono ?_;rintro e w4 ⟨rfl,L⟩;replace L:=hid L))
     ((try simp only [Exit.inBlock,Exit.then]);refine bodyPost_ret (results_none rfl _ _ _) rfl ?_)
     exact ⟨rfl,goalK.out _ (by rw [EK.out];exact KLeft.from HC.out.2.2 L.out)⟩
    | false=>
     have EN:=hid (ES.out.trans (if_neg (fun e=>by
      have h1:hearsB q.frm t=false:=by rw [XX.out.2.1];exact hd
      rw [ef] at h1
      simp [hearsB] at h1
      omega)))
     clear eA ES c3 ef
     by_cases qw:m.wait=0
     ·have dw:(m.wait == 0)=true:=by simpa using qw
      have EK:=hid (EN.out.trans (if_pos qw))
      clear qw EA EC
      go_wp2_with (first | (go_at_call 133;refine (hears_any B.g (r*17+8) qf t _ k12).mono ?_;rintro e w2 ⟨rfl,rfl⟩;rw [hd]) | (go_at_call 125;refine EB.out.mono ?_;rintro e w4 ⟨rfl,L⟩;replace L:=hid L))
      ((try simp only [Exit.inBlock,Exit.then]);refine bodyPost_ret (results_none rfl _ _ _) rfl ?_)
      exact ⟨rfl,goalK.out _ (by rw [EK.out];exact KLeft.from HC.out.2.2 L.out)⟩
     ·have dw:(m.wait == 0)=false:=by simpa using qw
      have EK:=hid (EN.out.trans (if_neg qw))
      clear qw EA EB
      go_wp2_with (first | (go_at_call 133;refine (hears_any B.g (r*17+8) qf t _ k12).mono ?_;rintro e w2 ⟨rfl,rfl⟩;rw [hd]) | (go_at_call 131;refine (EC.out _ rfl).mono ?_;rintro e w3 ⟨rfl,C3⟩;replace C3:=hid C3) | (go_at_call 136;refine C3.out.mono ?_;rintro e w4 ⟨rfl,L⟩;replace L:=hid L))
      go_end0
      exact ⟨rfl,goalK.out _ (by rw [EK.out];exact KLeft.from HC.out.2.2 L.out)⟩
   ·have d3:(cst == 3)=false:=by simpa using c3
    have EN:=hid (ES.out.trans (if_neg (fun e=>c3 e.1)))
    clear ES c3
    by_cases qw:m.wait=0
    ·have dw:(m.wait == 0)=true:=by simpa using qw
     have EK:=hid (EN.out.trans (if_pos qw))
     clear qw EA EC
     go_wp2_with (first | (go_at_call 125;refine EB.out.mono ?_;rintro e w4 ⟨rfl,L⟩;replace L:=hid L))
     ((try simp only [Exit.inBlock,Exit.then]);refine bodyPost_ret (results_none rfl _ _ _) rfl ?_)
     exact ⟨rfl,goalK.out _ (by rw [EK.out];exact KLeft.from HC.out.2.2 L.out)⟩
    ·have dw:(m.wait == 0)=false:=by simpa using qw
     have EK:=hid (EN.out.trans (if_neg qw))
     clear qw EA EB
     go_wp2_with (first | (go_at_call 131;refine (EC.out _ rfl).mono ?_;rintro e w3 ⟨rfl,C3⟩;replace C3:=hid C3) | (go_at_call 136;refine C3.out.mono ?_;rintro e w4 ⟨rfl,L⟩;replace L:=hid L))
     go_end0
     exact ⟨rfl,goalK.out _ (by rw [EK.out];exact KLeft.from HC.out.2.2 L.out)⟩
end
end Go.Proofs.YteejjgbeknnmeaaGreatDoor
