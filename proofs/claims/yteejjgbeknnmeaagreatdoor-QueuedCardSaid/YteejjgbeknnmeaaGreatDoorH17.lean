import Derived.Test.YteejjgbeknnmeaaGreatDoorH15
set_option maxRecDepth 100000
set_option maxHeartbeats 20000000
namespace Go.Proofs.YteejjgbeknnmeaaGreatDoor
open Go.RowKit
section
variable (B:Bk) (S:Nat->Prop) (M:PM) (K:RM) (b t:Nat) (u:Th) (p:PT) (a j:Nat) (x y:Int) (w:World)
theorem send_no (h:PRep w B S M) (R:Rel (only t) M K) (ft:K.Fit) (nm:K.Num b) (hu:K.threads[t]? = some u) (s1:u.st=1) (hp:M.threads[t]? = some p) (ha:p.sp=a) (hj:j < 6) (hx:pb (findQ M.passes a j)=x) (hy:pa (findQ M.passes a j)=y) (hno:(bits .and .i64 x 1 == 1)=false\/y=t) :
  Calls Tryz.prog 86 #[.pointer (some ⟨B.x,0,none⟩),.int .i64 t,.int .i64 j] w fun e w'=>e=.returned (.tuple #[])/\KLeft B S none_ (K.over t 4) w w':=by
 have fa:=ft.th t u hu
 have RT:=R.th t u p hu hp
 have han:a < M.sp.toNat:=by rw [R.sp];have:=fa.s0;have:=fa.s1;have:=RT.sp;omega
 have HE:Hid (∀ w1,PRep w1 B S M->_):=fun w1 h1=>end_rel B S (only t) M K 0 b 4 t u true w1 h1 R ft nm hu (.inr rfl) ⟨fun _=>s1,fun _=>rfl⟩
 simp only [if_true] at HE
 have e0:Hid (∀ i,none_ i↔Wo (only t) t i):=fun i=>⟨fun h=>h.elim,fun h=>h.2 h.1⟩
 have h6:=R.six ft
 have htl:=(List.getElem?_eq_some_iff.1 hp).1
 have HH:=hid h
 obtain ⟨cs,rv,sl,at_,hS⟩:=h
 obtain ⟨s0,hs0⟩:=at_.sl_get hp
 have hc1:=(at_.cell 1).trans at_.c1
 have hc6:=(at_.cell 6).trans at_.c6
 have k0:=(at_.tcell hp hs0 0 (by omega)).trans (show (prow p s0)[0]? = some (.int .i64 p.sp) from rfl)
 rw [ha] at k0
 simp only [Nat.add_zero] at k0
 have q0:=(at_.slotC (s:=a) (j:=j) han hj).1
 have q1:=(at_.slotC (s:=a) (j:=j) han hj).2
 rw [hy] at q0
 rw [hx] at q1
 have lx:=at_.lx
 have lg:=at_.lg
 have lgs:=at_.ls
 have HW:=hid (HE.out (w.alloc (.cells #[.int .i64 y,.int .i64 x] 228)).drew (HH.out.kept (((Fr.refl (fun _=>False) w).alloc _).drew) (fun _ _ h=>h)))
 have FW:Hid (Fr S w (w.alloc (.cells #[.int .i64 y,.int .i64 x] 228)).drew):=((Fr.refl _ w).alloc _).drew
 generalize hm:M.threads.length=m at *
 generalize hm2:M.sp.toNat=m2 at *
 have ht':(t:Int) < (m:Int):=by omega
 have ha':(a:Int) < (m2:Int):=by omega
 have hj':(j:Int) < 6:=by omega
 clear HE HH at_ hs0 hS hp hx hy hm hm2 R ft nm hu RT fa
 have fin:Hid (∀ w',KLeft B S (Wo (only t) t) (K.over t 4) (w.alloc (.cells #[.int .i64 y,.int .i64 x] 228)).drew w'->KLeft B S none_ (K.over t 4) w w'):=by
  rintro w' ⟨M',⟨⟨S',h',o'⟩,F'⟩,R'⟩
  exact ⟨M',⟨⟨S',h',fun i hi=>(o' i hi).imp id (fun e=>by simp [World.drew] at e;omega)⟩,FW.out.trans F'⟩,R'.acts e0.out⟩
 clear FW e0
 by_cases d:(bits .and .i64 x 1 == 1)=false
 ·clear hno
  go_enter Tryz.func86,Tryz.ntmps86
  go_wp2
  go_region
  go_wp2_with (first
   | (go_at_call 137;refine (coreHolds_any _ _ _).mono ?_;rintro e w2 ⟨rfl,rfl⟩;rw [d])
   | (go_at_call 125;refine HW.out.mono ?_;rintro e w3 ⟨rfl,L⟩;replace L:=hid L))
  ((try simp only [Exit.inBlock,Exit.then]);refine bodyPost_ret (results_none rfl _ _ _) rfl ?_)
  exact ⟨rfl,fin.out _ L.out⟩
 ·have d':(bits .and .i64 x 1 == 1)=true:=by simpa using d
  have hyt:y=t:=hno.resolve_left d
  subst hyt
  clear hno d
  go_enter Tryz.func86,Tryz.ntmps86
  go_wp2
  go_region
  go_wp2_with (first
   | (go_at_call 137;refine (coreHolds_any _ _ _).mono ?_;rintro e w2 ⟨rfl,rfl⟩;rw [d'])
   | (go_at_call 125;refine HW.out.mono ?_;rintro e w3 ⟨rfl,L⟩;replace L:=hid L))
  ((try simp only [Exit.inBlock,Exit.then]);refine bodyPost_ret (results_none rfl _ _ _) rfl ?_)
  exact ⟨rfl,fin.out _ L.out⟩
theorem send_yes (r:Nat) (m:Ms) (bl:Bool) (h:PRep w B S M) (R:Rel (only t) M K) (ft:K.Fit) (nm:K.Num b) (hu:K.threads[t]? = some u) (s1:u.st=1) (hp:M.threads[t]? = some p) (ha:p.sp=a) (hj:j < 6) (hx:pb (findQ M.passes a j)=x) (hy:pa (findQ M.passes a j)=r) (hyes:(bits .and .i64 x 1 == 1)=true) (hbl:(bits .and .i64 x 2 == 2)=bl)
  (hrt:r≠t) (hr:r < K.threads.length) (par:p.pw=u.mw/\p.item=u.item/\p.rt=u.rt/\-1<=u.item/\u.item<=5) (hw:u.wait=m.wait) :
  Calls Tryz.prog 86 #[.pointer (some ⟨B.x,0,none⟩),.int .i64 t,.int .i64 j] w fun e w'=>e=.returned (.tuple #[])/\KLeft B S none_ ((K.lendsTo t bl).sends t r m) w w':=by
 have fa:=ft.th t u hu
 have RT:=R.th t u p hu hp
 have han:a < M.sp.toNat:=by rw [R.sp];have:=fa.s0;have:=fa.s1;have:=RT.sp;omega
 have h6:=R.six ft
 have htl:=(List.getElem?_eq_some_iff.1 hp).1
 have hrl:r < M.threads.length:=by rw [R.len];exact hr
 have HH:=hid (And.intro h (And.intro R (And.intro ft (And.intro nm (And.intro hu (And.intro s1 (And.intro hp (And.intro par (And.intro hw hr)))))))))
 obtain ⟨cs,rv,sl,at_,hS⟩:=h
 obtain ⟨s0,hs0⟩:=at_.sl_get hp
 have hc1:=(at_.cell 1).trans at_.c1
 have hc6:=(at_.cell 6).trans at_.c6
 have k0:=(at_.tcell hp hs0 0 (by omega)).trans (show (prow p s0)[0]? = some (.int .i64 p.sp) from rfl)
 have k10:=(at_.tcell hp hs0 10 (by omega)).trans (show (prow p s0)[10]? = some (.int .i64 p.item) from rfl)
 have fg:=at_.tfro
 rw [ha] at k0
 simp only [Nat.add_zero] at k0
 have q0:=(at_.slotC (s:=a) (j:=j) han hj).1
 have q1:=(at_.slotC (s:=a) (j:=j) han hj).2
 rw [hy] at q0
 rw [hx] at q1
 have lx:=at_.lx
 have lg:=at_.lg
 have lgs:=at_.ls
 have hgx:=at_.n1.1
 have HA:=hid (And.intro at_ (And.intro hs0 hS))
 generalize hm:M.threads.length=mm at *
 generalize hm2:M.sp.toNat=m2 at *
 have HM:=hid hm
 have ht':(t:Int) < (mm:Int):=by omega
 have hr':(r:Int) < (mm:Int):=by omega
 have ha':(a:Int) < (m2:Int):=by omega
 have hj':(j:Int) < 6:=by omega
 have hrt':((r:Int) == (t:Int))=false:=by simp;omega
 clear at_ hs0 hS hp hx hy hm hm2 R ft nm hu RT fa par hw
 cases bl with
 | true=>
  have hb2:(bits .and .i64 x 2 == 2)=true:=hbl
  go_enter Tryz.func86,Tryz.ntmps86
  go_wp2
  go_region
  go_wp2_with (go_at_call 137;first
   | (refine (coreHolds_any x 1 _).mono ?_;rintro e w2 ⟨rfl,rfl⟩;rw [hyes])
   | (refine (coreHolds_any x 2 _).mono ?_;rintro e w2 ⟨rfl,rfl⟩;rw [hb2]))
  go_cut [8] (fun t8 wc=>t8=.pointer (some ⟨B.g,r*17,none⟩)/\Hid (PRep wc B S (lentP true M t)/\wc.heap[w.heap.size]? = some (.cells #[.int .i64 r,.int .i64 x] 228 (0,0))/\Fr S w wc))
  case first=>
   go_region
   go_wp2
   go_meet
   case rel=>
    exact ⟨rfl,(HH.out.1.kept (((Fr.refl (fun _=>False) w).alloc _).drew) (fun _ _ h=>h)).drew,heap_alloc_new w _,(((Fr.refl S w).alloc _).drew).drew⟩
  case rest=>
   obtain ⟨rfl,HC⟩:=hcut
   have R2:Rel (only t) (lentP true M t) (K.lendsTo t true):=lentR HH.out.2.1 HH.out.2.2.2.2.1 true
   obtain ⟨p2,hp2,e2,par2⟩:=lentPar (bl:=true) (u:=u) HH.out.2.2.2.2.2.2.1 HH.out.2.2.2.2.2.2.2.1
   have hu2:(K.lendsTo t true).threads[t]? = some { u with lends:=true }:=get_modify _ HH.out.2.2.2.2.1
   obtain ⟨c,hcK⟩:∃ c,K.threads[r]? = some c:=⟨_,List.getElem?_eq_getElem HH.out.2.2.2.2.2.2.2.2.2⟩
   have hc2:(K.lendsTo t true).threads[r]? = some c:=by show (K.threads.modify t _)[r]? = _;rw [modify_other _ hrt];exact hcK
   have ES:(K.lendsTo t true).sends t r m=if c.st=3/\(c.frm=-1\/c.frm=t) then (((K.lendsTo t true).deliver t r).toFirst r).goes 7 t true else if m.wait=0 then (K.lendsTo t true).over t 5 else (K.lendsTo t true).waits t 2 r:=by unfold RM.sends;rw [hc2]
   have X:=sendRest B S (lentP true M t) (K.lendsTo t true) b t r { u with lends:=true } c p2 wc HC.out.1 R2 (lends_fit HH.out.2.2.1 t true) (num_clo.lendsTo b K t true HH.out.2.2.2.1) hu2 s1 hp2 par2 hc2 hrt
   obtain ⟨q,hq,k3,k12,k14,hc1c,fgc,h6c,eA,eB,eC⟩:=X
   have k14':wc.cell? ⟨B.g,t*17+14,none⟩=some (.int .i64 m.wait):=by rw [<- HH.out.2.2.2.2.2.2.2.2.1];exact k14
   have y0:wc.cell? ⟨w.heap.size,0,none⟩=some (.int .i64 r):=(cell_of_row wc _ 0 _ _ _ HC.out.2.1).trans rfl
   have lbw:w.heap.size < wc.heap.size:=(Array.getElem?_eq_some_iff.1 HC.out.2.1).1
   have hbg:w.heap.size≠B.g:=by omega
   have EA:=hid eA
   have EB:=hid eB
   have EC:=hid eC
   obtain ⟨KS,hKS⟩:∃ KS,(K.lendsTo t true).sends t r m=KS:=⟨_,rfl⟩
   rw [hKS] at ES
   obtain ⟨cst,hcst⟩:∃ cst,c.st=cst:=⟨_,rfl⟩
   obtain ⟨qf,hqf⟩:∃ qf,q.frm=qf:=⟨_,rfl⟩
   rw [hcst] at k3 ES
   rw [hqf] at k12
   have k8:∃ v8,wc.cell? ⟨B.g,t*17+8,none⟩=some v8:=by
    obtain ⟨cs3,rv3,sl3,at3,_⟩:=HC.out.1
    obtain ⟨s3,hs3⟩:=at3.sl_get hp2
    exact ⟨_,(at3.tcell hp2 hs3 8 (by omega)).trans rfl⟩
   obtain ⟨v8,k8⟩:=k8
   have XX:=hid (And.intro hcst (And.intro hqf hKS))
   clear R2 hp2 e2 par2 hu2 hcK hc2 hq k14 hc1c eA eB eC hKS hqf
   have goalK:Hid (∀ w',KLeft B S none_ KS w w'->KLeft B S none_ ((K.lendsTo t true).sends t r m) w w'):=fun w' h=>by rw [XX.out.2.2];exact h
   replace ES:=hid ES
   by_cases c3:cst=3
   ·have d3:(cst == 3)=true:=by simpa using c3
    obtain ⟨ef,eA⟩:=EA.out (XX.out.1.trans c3)
    cases hd:hearsB qf t with
    | true=>
     have EK:=hid (ES.out.trans (if_pos ⟨c3,by
      have h1:hearsB q.frm t=true:=by rw [XX.out.2.1];exact hd
      rw [ef] at h1
      simpa [hearsB] using h1⟩))
     have ED:=hid eA
     clear EB EC EA eA ES c3 ef
     go_wp2_with (first | (go_at_call 133;refine (hears_any B.g (r*17+8) qf t _ k12).mono ?_;rintro e w2 ⟨rfl,rfl⟩;rw [hd]) | (go_at_call 134;refine ED.out.mono ?_;rintro e w3 ⟨rfl,S3,C3⟩;replace C3:=hid C3.2.2) | (go_at_call 135;refine C3.out.mono ?_;rintro e w4 ⟨rfl,L⟩;replace L:=hid L))
     ((try simp only [Exit.inBlock,Exit.then]);refine bodyPost_ret (results_none rfl _ _ _) rfl ?_)
     exact ⟨rfl,goalK.out _ (by rw [EK.out];exact KLeft.from HC.out.2.2 L.out)⟩
    | false=>
     have EN:=hid (ES.out.trans (if_neg (fun e=>by
      have h1:hearsB q.frm t=false:=by rw [XX.out.2.1];exact hd
      rw [ef] at h1
      simp [hearsB] at h1
      omega)))
     clear eA ES c3 ef
     by_cases qw:m.wait=0
     ·have dw:(m.wait == 0)=true:=by simpa using qw
      have EK:=hid (EN.out.trans (if_pos qw))
      clear qw EA EC
      go_wp2_with (first | (go_at_call 133;refine (hears_any B.g (r*17+8) qf t _ k12).mono ?_;rintro e w2 ⟨rfl,rfl⟩;rw [hd]) | (go_at_call 125;refine EB.out.mono ?_;rintro e w4 ⟨rfl,L⟩;replace L:=hid L))
      ((try simp only [Exit.inBlock,Exit.then]);refine bodyPost_ret (results_none rfl _ _ _) rfl ?_)
      exact ⟨rfl,goalK.out _ (by rw [EK.out];exact KLeft.from HC.out.2.2 L.out)⟩
     ·have dw:(m.wait == 0)=false:=by simpa using qw
      have EK:=hid (EN.out.trans (if_neg qw))
      clear qw EA EB
      go_wp2_with (first | (go_at_call 133;refine (hears_any B.g (r*17+8) qf t _ k12).mono ?_;rintro e w2 ⟨rfl,rfl⟩;rw [hd]) | (go_at_call 131;refine (EC.out _ rfl).mono ?_;rintro e w3 ⟨rfl,C3⟩;replace C3:=hid C3) | (go_at_call 136;refine C3.out.mono ?_;rintro e w4 ⟨rfl,L⟩;replace L:=hid L))
      go_end0
      exact ⟨rfl,goalK.out _ (by rw [EK.out];exact KLeft.from HC.out.2.2 L.out)⟩
   ·have d3:(cst == 3)=false:=by simpa using c3
    have EN:=hid (ES.out.trans (if_neg (fun e=>c3 e.1)))
    clear ES c3
    by_cases qw:m.wait=0
    ·have dw:(m.wait == 0)=true:=by simpa using qw
     have EK:=hid (EN.out.trans (if_pos qw))
     clear qw EA EC
     go_wp2_with (first | (go_at_call 125;refine EB.out.mono ?_;rintro e w4 ⟨rfl,L⟩;replace L:=hid L))
     ((try simp only [Exit.inBlock,Exit.then]);refine bodyPost_ret (results_none rfl _ _ _) rfl ?_)
     exact ⟨rfl,goalK.out _ (by rw [EK.out];exact KLeft.from HC.out.2.2 L.out)⟩
    ·have dw:(m.wait == 0)=false:=by simpa using qw
     have EK:=hid (EN.out.trans (if_neg qw))
     clear qw EA EB
     go_wp2_with (first | (go_at_call 131;refine (EC.out _ rfl).mono ?_;rintro e w3 ⟨rfl,C3⟩;replace C3:=hid C3) | (go_at_call 136;refine C3.out.mono ?_;rintro e w4 ⟨rfl,L⟩;replace L:=hid L))
     go_end0
     exact ⟨rfl,goalK.out _ (by rw [EK.out];exact KLeft.from HC.out.2.2 L.out)⟩
 | false=>
  have hb2:(bits .and .i64 x 2 == 2)=false:=hbl
  go_enter Tryz.func86,Tryz.ntmps86
  go_wp2
  go_region
  go_wp2_with (go_at_call 137;first
   | (refine (coreHolds_any x 1 _).mono ?_;rintro e w2 ⟨rfl,rfl⟩;rw [hyes])
   | (refine (coreHolds_any x 2 _).mono ?_;rintro e w2 ⟨rfl,rfl⟩;rw [hb2]))
  go_cut [8] (fun t8 wc=>t8=.pointer (some ⟨B.g,r*17,none⟩)/\Hid (PRep wc B S (lentP false M t)/\wc.heap[w.heap.size]? = some (.cells #[.int .i64 r,.int .i64 x] 228 (0,0))/\Fr S w wc))
  case first=>
   go_region
   go_wp2
   go_meet
   case rel=>
    have A:=HA.out.1.setTh (t:=t) (j:=10) (fun p=>{ p with item:=-1 }) (.int .i64 (-1)) HH.out.2.2.2.2.2.2.1 HA.out.2.1 (by omega) rfl rfl rfl rfl
    have hm:=HM.out
    subst hm
    refine ⟨rfl,⟨cs,rv,sl,((A.1.alloc _).drew).drew,fun k=>by rw [HA.out.2.2 k];rw [show (lentP false M t).threads.length=M.threads.length by simp [lentP,PM.upd]]⟩,?_,((((A.2.mono (fun k _ e=>(HA.out.2.2 k).2 (.inl (.inr (.inl e))))).alloc _).drew).drew)⟩
    have z:w.heap.size=(w.setCell ⟨B.g,t*17+8+1+1,none⟩ (.int .i64 (-1))).heap.size:=by simp [World.setCell]
    rw [show (((w.setCell ⟨B.g,t*17+8+1+1,none⟩ (.int .i64 (-1))).alloc (.cells #[.int .i64 r,.int .i64 x] 228)).drew.drew).heap[w.heap.size]? = ((w.setCell ⟨B.g,t*17+8+1+1,none⟩ (.int .i64 (-1))).alloc (.cells #[.int .i64 r,.int .i64 x] 228)).heap[w.heap.size]? from rfl,z]
    exact heap_alloc_new _ _
  case rest=>
   obtain ⟨rfl,HC⟩:=hcut
   have R2:Rel (only t) (lentP false M t) (K.lendsTo t false):=lentR HH.out.2.1 HH.out.2.2.2.2.1 false
   obtain ⟨p2,hp2,e2,par2⟩:=lentPar (bl:=false) (u:=u) HH.out.2.2.2.2.2.2.1 HH.out.2.2.2.2.2.2.2.1
   have hu2:(K.lendsTo t false).threads[t]? = some { u with lends:=false }:=get_modify _ HH.out.2.2.2.2.1
   obtain ⟨c,hcK⟩:∃ c,K.threads[r]? = some c:=⟨_,List.getElem?_eq_getElem HH.out.2.2.2.2.2.2.2.2.2⟩
   have hc2:(K.lendsTo t false).threads[r]? = some c:=by show (K.threads.modify t _)[r]? = _;rw [modify_other _ hrt];exact hcK
   have ES:(K.lendsTo t false).sends t r m=if c.st=3/\(c.frm=-1\/c.frm=t) then (((K.lendsTo t false).deliver t r).toFirst r).goes 7 t true else if m.wait=0 then (K.lendsTo t false).over t 5 else (K.lendsTo t false).waits t 2 r:=by unfold RM.sends;rw [hc2]
   have X:=sendRest B S (lentP false M t) (K.lendsTo t false) b t r { u with lends:=false } c p2 wc HC.out.1 R2 (lends_fit HH.out.2.2.1 t false) (num_clo.lendsTo b K t false HH.out.2.2.2.1) hu2 s1 hp2 par2 hc2 hrt
   obtain ⟨q,hq,k3,k12,k14,hc1c,fgc,h6c,eA,eB,eC⟩:=X
   have k14':wc.cell? ⟨B.g,t*17+14,none⟩=some (.int .i64 m.wait):=by rw [<- HH.out.2.2.2.2.2.2.2.2.1];exact k14
   have y0:wc.cell? ⟨w.heap.size,0,none⟩=some (.int .i64 r):=(cell_of_row wc _ 0 _ _ _ HC.out.2.1).trans rfl
   have lbw:w.heap.size < wc.heap.size:=(Array.getElem?_eq_some_iff.1 HC.out.2.1).1
   have hbg:w.heap.size≠B.g:=by omega
   have EA:=hid eA
   have EB:=hid eB
   have EC:=hid eC
   obtain ⟨KS,hKS⟩:∃ KS,(K.lendsTo t false).sends t r m=KS:=⟨_,rfl⟩
   rw [hKS] at ES
   obtain ⟨cst,hcst⟩:∃ cst,c.st=cst:=⟨_,rfl⟩
   obtain ⟨qf,hqf⟩:∃ qf,q.frm=qf:=⟨_,rfl⟩
   rw [hcst] at k3 ES
   rw [hqf] at k12
   have k8:∃ v8,wc.cell? ⟨B.g,t*17+8,none⟩=some v8:=by
    obtain ⟨cs3,rv3,sl3,at3,_⟩:=HC.out.1
    obtain ⟨s3,hs3⟩:=at3.sl_get hp2
    exact ⟨_,(at3.tcell hp2 hs3 8 (by omega)).trans rfl⟩
   obtain ⟨v8,k8⟩:=k8
   have XX:=hid (And.intro hcst (And.intro hqf hKS))
   clear R2 hp2 e2 par2 hu2 hcK hc2 hq k14 hc1c eA eB eC hKS hqf
   have goalK:Hid (∀ w',KLeft B S none_ KS w w'->KLeft B S none_ ((K.lendsTo t false).sends t r m) w w'):=fun w' h=>by rw [XX.out.2.2];exact h
   replace ES:=hid ES
   by_cases c3:cst=3
   ·have d3:(cst == 3)=true:=by simpa using c3
    obtain ⟨ef,eA⟩:=EA.out (XX.out.1.trans c3)
    cases hd:hearsB qf t with
    | true=>
     have EK:=hid (ES.out.trans (if_pos ⟨c3,by
      have h1:hearsB q.frm t=true:=by rw [XX.out.2.1];exact hd
      rw [ef] at h1
      simpa [hearsB] using h1⟩))
     have ED:=hid eA
     clear EB EC EA eA ES c3 ef
     go_wp2_with (first | (go_at_call 133;refine (hears_any B.g (r*17+8) qf t _ k12).mono ?_;rintro e w2 ⟨rfl,rfl⟩;rw [hd]) | (go_at_call 134;refine ED.out.mono ?_;rintro e w3 ⟨rfl,S3,C3⟩;replace C3:=hid C3.2.2) | (go_at_call 135;refine C3.out.mono ?_;rintro e w4 ⟨rfl,L⟩;replace L:=hid L))
     ((try simp only [Exit.inBlock,Exit.then]);refine bodyPost_ret (results_none rfl _ _ _) rfl ?_)
     exact ⟨rfl,goalK.out _ (by rw [EK.out];exact KLeft.from HC.out.2.2 L.out)⟩
    | false=>
     have EN:=hid (ES.out.trans (if_neg (fun e=>by
      have h1:hearsB q.frm t=false:=by rw [XX.out.2.1];exact hd
      rw [ef] at h1
      simp [hearsB] at h1
      omega)))
     clear eA ES c3 ef
     by_cases qw:m.wait=0
     ·have dw:(m.wait == 0)=true:=by simpa using qw
      have EK:=hid (EN.out.trans (if_pos qw))
      clear qw EA EC
      go_wp2_with (first | (go_at_call 133;refine (hears_any B.g (r*17+8) qf t _ k12).mono ?_;rintro e w2 ⟨rfl,rfl⟩;rw [hd]) | (go_at_call 125;refine EB.out.mono ?_;rintro e w4 ⟨rfl,L⟩;replace L:=hid L))
      ((try simp only [Exit.inBlock,Exit.then]);refine bodyPost_ret (results_none rfl _ _ _) rfl ?_)
      exact ⟨rfl,goalK.out _ (by rw [EK.out];exact KLeft.from HC.out.2.2 L.out)⟩
     ·have dw:(m.wait == 0)=false:=by simpa using qw
      have EK:=hid (EN.out.trans (if_neg qw))
      clear qw EA EB
      go_wp2_with (first | (go_at_call 133;refine (hears_any B.g (r*17+8) qf t _ k12).mono ?_;rintro e w2 ⟨rfl,rfl⟩;rw [hd]) | (go_at_call 131;refine (EC.out _ rfl).mono ?_;rintro e w3 ⟨rfl,C3⟩;replace C3:=hid C3) | (go_at_call 136;refine C3.out.mono ?_;rintro e w4 ⟨rfl,L⟩;replace L:=hid L))
      go_end0
      exact ⟨rfl,goalK.out _ (by rw [EK.out];exact KLeft.from HC.out.2.2 L.out)⟩
   ·have d3:(cst == 3)=false:=by simpa using c3
    have EN:=hid (ES.out.trans (if_neg (fun e=>c3 e.1)))
    clear ES c3
    by_cases qw:m.wait=0
    ·have dw:(m.wait == 0)=true:=by simpa using qw
     have EK:=hid (EN.out.trans (if_pos qw))
     clear qw EA EC
     go_wp2_with (first | (go_at_call 125;refine EB.out.mono ?_;rintro e w4 ⟨rfl,L⟩;replace L:=hid L))
     ((try simp only [Exit.inBlock,Exit.then]);refine bodyPost_ret (results_none rfl _ _ _) rfl ?_)
     exact ⟨rfl,goalK.out _ (by rw [EK.out];exact KLeft.from HC.out.2.2 L.out)⟩
    ·have dw:(m.wait == 0)=false:=by simpa using qw
     have EK:=hid (EN.out.trans (if_neg qw))
     clear qw EA EB
     go_wp2_with (first | (go_at_call 131;refine (EC.out _ rfl).mono ?_;rintro e w3 ⟨rfl,C3⟩;replace C3:=hid C3) | (go_at_call 136;refine C3.out.mono ?_;rintro e w4 ⟨rfl,L⟩;replace L:=hid L))
     go_end0
     exact ⟨rfl,goalK.out _ (by rw [EK.out];exact KLeft.from HC.out.2.2 L.out)⟩
end
open Go.RowKit
theorem isMs_in {k:Nat}{m:Ms}(h:isMs k m=true):(-1<=m.dst/\m.dst<=5)/\(-2<=m.frm/\m.frm<=(k:Int)-1)/\(-1<=m.item/\m.item<=5)/\(0<=m.rt/\m.rt<=3)/\(-1<=m.win/\m.win<=5)/\m.words.length<=4/\-1<=m.wait:=by
 simp only [isMs,Bool.and_eq_true] at h
 obtain ⟨h1,h2,h3,h4,h5,h6,h7,_⟩:=h
 exact ⟨inI_true.1 h1,inI_true.1 h2,inI_true.1 h3,inI_true.1 h4,inI_true.1 h5,by have:=of_decide_eq_true h6;omega,of_decide_eq_true h7⟩
theorem ipc_recv {K:RM}{m:Ms}{t:Nat}(hc:K.cur=t) (hm:isMs K.threads.length m=true) (hd:m.dst < 0):K.ipc m=(0,(K.asks t m).recv 7 t true):=by
 unfold RM.ipc
 rw [if_neg (by omega),if_neg (by rw [hm];simp),if_pos hd,hc,Int.toNat_natCast]
theorem ipc_send {K:RM}{m:Ms}{t:Nat}{u:Th}(hc:K.cur=t) (hu:K.threads[t]? = some u) (hm:isMs K.threads.length m=true) (hd:¬ m.dst < 0) :
  K.ipc m=match findQ K.passes u.sp m.dst with
   | none=>(0,(K.asks t m).over t 4)
   | some p=>if bits .and .i64 p.2.2.2 1=0\/p.2.2.1=t then (0,(K.asks t m).over t 4) else (0,((K.asks t m).lendsTo t (bits .and .i64 p.2.2.2 2 != 0)).sends t p.2.2.1.toNat m):=by
 unfold RM.ipc
 rw [if_neg (by omega),if_neg (by rw [hm];simp),if_neg hd,hc,Int.toNat_natCast,hu]
 show (match findQ K.passes u.sp m.dst with | none=>_ | some p=>_)=_
 cases findQ K.passes u.sp m.dst <;> rfl
theorem send_ipc (B:Bk) (S:Nat->Prop) (M:PM) (K:RM) (n t:Nat) (u:Th) (p:PT) (m:Ms) (w:World) (h:PRep w B S M) (R:Rel (only t) M (K.asks t m)) (ok:K.Ok n) (hc:K.cur=t) (hu:K.threads[t]? = some u) (s1:u.st=1) (hm:isMs K.threads.length m=true) (hd:0<=m.dst) (hp:M.threads[t]? = some p) (par:p.pw=m.words/\p.item=m.item/\p.rt=m.rt) :
  Calls Tryz.prog 86 #[.pointer (some ⟨B.x,0,none⟩),.int .i64 t,.int .i64 m.dst] w fun e w'=>e=.returned (.tuple #[])/\(K.ipc m).1=0/\KLeft B S none_ (K.ipc m).2 w w':=by
 have mi:=isMs_in hm
 obtain ⟨j,ej⟩:=Int.eq_ofNat_of_zero_le hd
 have fa:=ok.ft.th t u hu
 obtain ⟨a,ea⟩:=Int.eq_ofNat_of_zero_le fa.s0
 have ft2:=ok.ft.asks t m mi.2.2.2.2.2.1 (by omega)
 have nm2:=num_clo.asks _ K t m ok.nm
 have hu2:(K.asks t m).threads[t]? = some { u with dst:=m.dst,mw:=m.words,item:=m.item,rt:=m.rt,frm:=m.frm,win:=m.win,wait:=m.wait }:=get_modify _ hu
 have RT:=R.th t _ p hu2 hp
 have hps:M.passes=K.passes:=R.ps
 rw [ipc_send hc hu hm (by omega),ea,ej]
 rcases hf:findQ K.passes a j with _ | q
 ·refine (send_no B S M (K.asks t m) _ t _ p a j 0 0 w h R ft2 nm2 hu2 s1 hp (by rw [RT.sp];exact ea) (by omega) (by rw [hps,hf];rfl) (by rw [hps,hf];rfl) (.inl rfl)).mono ?_
  rintro e w' ⟨rfl,L⟩
  exact ⟨rfl,rfl,L⟩
 ·obtain ⟨i,hi⟩:=List.getElem?_of_mem (List.mem_of_find?_eq_some (show List.find? _ K.passes=some q from hf))
  have oq:=ok.oq i q hi
  have x3:q.2.2.2=0\/q.2.2.2=1\/q.2.2.2=2\/q.2.2.2=3:=by have:=oq.2.2.2.2.2.2.1;have:=oq.2.2.2.2.2.2.2;omega
  have b1:=bits_one x3 (a:=1) (.inl rfl)
  have b2:=bits_one x3 (a:=2) (.inr rfl)
  by_cases c:bits .and .i64 q.2.2.2 1=0\/q.2.2.1=t
  ·refine (send_no B S M (K.asks t m) _ t _ p a j q.2.2.2 q.2.2.1 w h R ft2 nm2 hu2 s1 hp (by rw [RT.sp];exact ea) (by omega) (by rw [hps,hf];rfl) (by rw [hps,hf];rfl) (c.imp (fun e=>by rw [b1,e];rfl) id)).mono ?_
   rintro e w' ⟨rfl,L⟩
   simp only [if_pos c]
   exact ⟨trivial,trivial,L⟩
  ·obtain ⟨r,er⟩:=Int.eq_ofNat_of_zero_le oq.2.2.2.2.1
   have hne:r≠t:=fun e=>c (.inr (by rw [er,e]))
   have hrl:r < (K.asks t m).threads.length:=by
    have:=oq.2.2.2.2.2.1
    have e9:(K.asks t m).threads.length=K.threads.length:=by simp [RM.asks,RM.upd]
    omega
   refine (send_yes B S M (K.asks t m) _ t _ p a j q.2.2.2 w r m (bits .and .i64 q.2.2.2 2 != 0) h R ft2 nm2 hu2 s1 hp (by rw [RT.sp];exact ea) (by omega) (by rw [hps,hf];rfl) (by rw [hps,hf];exact er) (by rw [b1];simp;exact fun e=>c (.inl e)) b2 hne hrl ⟨par.1,par.2.1,par.2.2,by show -1<=m.item;omega,by show m.item<=5;omega⟩ rfl).mono ?_
   rintro e w' ⟨rfl,L⟩
   simp only [if_neg c]
   rw [er]
   exact ⟨trivial,trivial,L⟩
open Go.RowKit
abbrev mC (m:Ms) (sa:Option Addr) (sc:Nat):Array Value:=#[.int .i64 m.dst,.slice sa m.words.length sc,.int .i64 m.item,.int .i64 m.rt,.int .i64 m.frm,.int .i64 m.win,.int .i64 m.wait]
def MsgOk:Prop:=∀ (B:Bk) (S:Nat->Prop) (M:PM) (k:Nat) (m:Ms) (sa:Option Addr) (sc:Nat) (w:World),PRep w B S M->M.threads.length=k->k<=6 ->
  Calls Tryz.prog 84 #[.pointer (some ⟨B.x,0,none⟩),.agg (mC m sa sc)] w fun e w'=>e=.returned (.bool (isMs k m))/\Below w.heap.size w w'
def talkV (m:Ms):Array Value:=#[.int .i64 0,.slice none 0 0,.int .i64 0,.int .i64 0,.int .i64 m.frm,.int .i64 m.win,.int .i64 m.wait,.int .u64 0]
def parV (a:Option Addr) (n c:Nat) (i r:Int):Array Value:=#[.slice a n c,.int .i64 i,.int .i64 r]
theorem talk_one (m:Ms):(talkV m).all (·.oneCell')=true:=by simp [talkV,Value.oneCell']
theorem par_one (a:Option Addr) (n c:Nat) (i r:Int):(parV a n c i r).all (·.oneCell')=true:=by simp [parV,Value.oneCell']
theorem cells7 {w:World}{g:Nat}{m:Ms}{sa:Option Addr}{sc:Nat}(h:w.heap[g]? = some (.cells (mC m sa sc) 43 (0,0))) :
  w.cell? ⟨g,0,none⟩=some (.int .i64 m.dst)/\w.cell? ⟨g,1,none⟩=some (.slice sa m.words.length sc)/\w.cell? ⟨g,2,none⟩=some (.int .i64 m.item)/\w.cell? ⟨g,3,none⟩=some (.int .i64 m.rt)/\w.cell? ⟨g,4,none⟩=some (.int .i64 m.frm)/\w.cell? ⟨g,5,none⟩=some (.int .i64 m.win)/\w.cell? ⟨g,6,none⟩=some (.int .i64 m.wait):=
 ⟨(cell_of_row w g 0 _ _ _ h).trans rfl,(cell_of_row w g 1 _ _ _ h).trans rfl,(cell_of_row w g 2 _ _ _ h).trans rfl,(cell_of_row w g 3 _ _ _ h).trans rfl,(cell_of_row w g 4 _ _ _ h).trans rfl,(cell_of_row w g 5 _ _ _ h).trans rfl,(cell_of_row w g 6 _ _ _ h).trans rfl⟩
theorem there_part {w:World}{b o n k l:Nat}(h:w.there b o n) (hk:k+l<=n):w.there b (o+k) l:=fun j hj=>by
 have:=h (k+j) (by omega)
 rwa [<- Nat.add_assoc] at this
theorem PmAt.tthere {w:World}{B:Bk}{M:PM}{cs:Array Value}{rv:Nat->Value}{sl:List (Sv×Sv×Value)}(h:PmAt w B M cs rv sl){t:Nat}(ht:t < M.threads.length):w.there B.g (t*17) 17:=h.th.there t (by rw [prows_len h.ln];exact ht)
theorem talk_state {w:World}{B:Bk}{S:Nat->Prop}{M:PM}(h:PRep w B S M){t:Nat}{p:PT}(hp:M.threads[t]? = some p) (m:Ms) :
  w.there B.g (t*17+8) (talkV m).size/\PLeft B S (M.upd t (askP m)) w (w.setCells B.g (t*17+8) (talkV m).toList)/\Fr (fun q=>q=B.g) w (w.setCells B.g (t*17+8) (talkV m).toList)/\S B.g:=by
 obtain ⟨cs,rv,sl,h,hS⟩:=h
 obtain ⟨s,hs⟩:=h.sl_get hp
 have ht:=(List.getElem?_eq_some_iff.1 hp).1
 have P:=h.run hp hs 8 (talkV m).toList (askP m) (s.1,Sv.nil,s.2.2) (by simp [talkV]) rfl rfl rfl (h.wd t p s hp hs).1 (PWd.nil _ _ _ _ _)
 refine ⟨there_part (h.tthere ht) (by simp [talkV]),PLeft.of hS (by simp [PM.upd]) P.1 (fun k hk=>pown_set (s':=(s.1,Sv.nil,s.2.2)) hs rfl (fun k hk=>.inl (.inr ⟨t,s,hs,.inl hk⟩)) (fun k hk=>by simp [inBlock,Sv.nil] at hk) k hk) P.2 (fun k e=>.inl (.inr (.inl e))),P.2,(hS _).2 (.inl (.inr (.inl rfl)))⟩
theorem parcel_state {w w3:World}{B:Bk}{S:Nat->Prop}{M:PM}(h:PRep w B S M){t:Nat}{p:PT}(hp:M.threads[t]? = some p) (l:List Int) (i r:Int) (a:Option Addr) (c:Nat) (hl:l.length<=4) (G:Grew 2 1 (.slice none 0 0) w (.slice a l.length c) ([] ++ l.map lnI) w3) :
  w3.there B.g (t*17+9) (parV a l.length c i r).size/\PLeft B S (M.upd t (fun p=>{ p with pw:=l,item:=i,rt:=r })) w (w3.setCells B.g (t*17+9) (parV a l.length c i r).toList)/\Fr (fun q=>q=B.g) w (w3.setCells B.g (t*17+9) (parV a l.length c i r).toList)/\Fr (fun _=>False) w w3:=by
 obtain ⟨cs,rv,sl,h,hS⟩:=h
 obtain ⟨s,hs⟩:=h.sl_get hp
 have ht:=(List.getElem?_eq_some_iff.1 hp).1
 have F3:Fr (fun _=>False) w w3:=G.fr (Fr.refl _ w) (fun k hk=>by simp [Value.ownBlock] at hk)
 have h3:=h.kept F3 (fun _ _ h=>h)
 have G1:=G.sl
 rw [List.nil_append] at G1
 have hin:Inl w3 1 (.slice a l.length c) (l.map lnI):=G1.toInl (by unfold maxLen;omega)
 have hnew:∀ k,inBlock (.slice a l.length c)=some k->w.heap.size<=k/\k < w3.heap.size:=fun k hk=>by
  have hk':Value.ownBlock (.slice a l.length c)=some k:=by
   cases a with
   | none=>simp [inBlock] at hk
   | some x=>
    cases l with
    | nil=>simp [inBlock] at hk
    | cons y ys=>simpa [inBlock,Value.ownBlock] using hk
  refine ⟨?_,G1.lt hk'⟩
  rcases G.at_ k hk' with e | e
  ·exact e
  ·simp [Value.ownBlock] at e
 have P:=h3.run hp hs 9 (parV a l.length c i r).toList (fun p=>{ p with pw:=l,item:=i,rt:=r }) (s.1,⟨a,l.length,c⟩,s.2.2) (by simp [parV]) rfl rfl rfl (h3.wd t p s hp hs).1 ⟨hin,fun k hk=>⟨(hnew k hk).2,fun hw=>by have:=h.wlt hw;have:=(hnew k hk).1;omega⟩⟩
 have F:Fr (fun q=>q=B.g) w (w3.setCells B.g (t*17+9) (parV a l.length c i r).toList):=(F3.mono (fun _ _ h=>h.elim)).trans P.2
 refine ⟨there_part (h3.tthere ht) (by simp [parV]),PLeft.of hS (by simp [PM.upd]) P.1 (fun k hk=>pown_set (s':=(s.1,⟨a,l.length,c⟩,s.2.2)) hs rfl (fun k hk=>.inl (.inr ⟨t,s,hs,.inl hk⟩)) (fun k hk=>.inr (hnew k hk).1) k hk) F (fun k e=>.inl (.inr (.inl e))),F,F3⟩
theorem PRep.ltS {w:World}{B:Bk}{S:Nat->Prop}{M:PM}(h:PRep w B S M){k:Nat}(hk:S k):k < w.heap.size:=by
 obtain ⟨cs,rv,sl,h,hS⟩:=h
 exact h.lt ((hS k).1 hk)
section
variable (IM:MsgOk) (B:Bk) (S:Nat->Prop) (M:PM) (K:RM) (n t:Nat) (u:Th) (p:PT) (m:Ms) (sa:Option Addr) (sc:Nat) (w:World)
theorem mIpc_no (h:KR w B S K) (ok:K.Ok n) (hc:K.cur < 0) :
  Calls Tryz.prog 47 #[.pointer (some ⟨B.x,0,none⟩),.agg (mC m sa sc)] w fun e w'=>Ans 2 e w w':=by
 obtain ⟨M,h,R⟩:=h
 have hb:Below w.heap.size w (w.alloc (.cells (mC m sa sc) 43)):=(Below.refl _ w).alloc (Nat.le_refl _) _
 have HC:=hid (caller_no B S M K _ (h.below hb) R ok.ft hc)
 have HB:=hid hb
 have hne:=e2_ne
 clear h R ok hc hb
 go_enter Tryz.func47,Tryz.ntmps47
 go_wp2_with (go_at_call 82;refine HC.out.mono ?_;rintro e w2 ⟨rfl,rfl⟩)
 go_ret
 exact .inr ⟨_,rfl,HB.out⟩
include IM in
theorem mIpc_arg (h:PRep w B S M) (R:Rel none_ M K) (ok:K.Ok n) (hc:K.cur=t) (hm:isMs K.threads.length m=false) :
  Calls Tryz.prog 47 #[.pointer (some ⟨B.x,0,none⟩),.agg (mC m sa sc)] w fun e w'=>Ans 3 e w w':=by
 have hb:Below w.heap.size w (w.alloc (.cells (mC m sa sc) 43)):=(Below.refl _ w).alloc (Nat.le_refl _) _
 have HC:=hid (caller_yes B S M K t _ (h.below hb) R ok.ft hc)
 have HI:=hid (IM B S M _ m sa sc _ (h.below hb) R.len ok.ft.six)
 rw [hm] at HI
 have HB:=hid hb
 clear h R ok hc hb hm
 go_enter Tryz.func47,Tryz.ntmps47
 go_wp2_with (first
  | (go_at_call 82;refine HC.out.mono ?_;rintro e w2 ⟨rfl,rfl⟩)
  | (go_at_call 84;refine HI.out.mono ?_;rintro e w2 ⟨rfl,H2⟩;replace H2:=hid H2))
 go_ret
 exact .inr ⟨_,rfl,HB.out.trans (H2.out.mono HB.out.size)⟩
structure Asked (B:Bk) (S:Nat->Prop) (M:PM) (m:Ms) (t:Nat) (sa:Option Addr) (sc:Nat) (w w2:World):Prop where
 l:PLeft B S (M.upd t (askP m)) w w2
 b:w2.heap[w.heap.size]? = some (.cells (mC m sa sc) 43 (0,0))
theorem asked_of (h:PRep w B S M) (hp:M.threads[t]? = some p){w1:World}(hb:Below (w.alloc (.cells (mC m sa sc) 43)).heap.size (w.alloc (.cells (mC m sa sc) 43)) w1) :
  w1.there B.g (t*17+8) (talkV m).size/\Asked B S M m t sa sc w (w1.setCells B.g (t*17+8) (talkV m).toList)/\w1.heap[w.heap.size]? = some (.cells (mC m sa sc) 43 (0,0))/\Below w.heap.size w w1:=by
 have b1:Below w.heap.size w w1:=((Below.refl _ w).alloc (Nat.le_refl _) _).trans (hb.mono (by simp))
 have h1:=h.below b1
 have T:=talk_state h1 hp m
 have lg:B.g < w.heap.size:=h.ltS T.2.2.2
 have e1:w1.heap[w.heap.size]? = some (.cells (mC m sa sc) 43 (0,0)):=(hb.block _ (by simp)).trans (heap_alloc_new w _)
 refine ⟨T.1,⟨?_,(T.2.2.1.block _ (by have:=(Array.getElem?_eq_some_iff.1 e1).1;exact this) (by omega)).trans e1⟩,e1,b1⟩
 exact (PLeft.below h b1).next (fun S' h'=>by
  have T':=talk_state h' hp m
  exact T'.2.1)
include IM in
theorem mIpc_recv (h:PRep w B S M) (R:Rel none_ M K) (ok:K.Ok n) (hc:K.cur=t) (hu:K.threads[t]? = some u) (s1:u.st=1) (hp:M.threads[t]? = some p) (hm:isMs K.threads.length m=true) (hd:m.dst=-1) :
  Calls Tryz.prog 47 #[.pointer (some ⟨B.x,0,none⟩),.agg (mC m sa sc)] w fun e w'=>e=.returned .nilIface/\KLeft B S none_ (K.ipc m).2 w w':=by
 have hb:Below w.heap.size w (w.alloc (.cells (mC m sa sc) 43)):=(Below.refl _ w).alloc (Nat.le_refl _) _
 have HC:=hid (caller_yes B S M K t _ (h.below hb) R ok.ft hc)
 have HI:=hid (IM B S M _ m sa sc _ (h.below hb) R.len ok.ft.six)
 rw [hm] at HI
 have mi:=isMs_in hm
 have E:=hid (ipc_recv hc hm (by omega))
 have HA:Hid (∀ {w1:World},Below (w.alloc (.cells (mC m sa sc) 43)).heap.size (w.alloc (.cells (mC m sa sc) 43)) w1->_):=fun {w1} hb=>asked_of B S M t p m sa sc w h hp hb
 have HX:Hid (∀ w1:World,Below w.heap.size w w1->w1.cell? ⟨B.x,1,none⟩=some (.slice (some ⟨B.g,0,none⟩) M.threads.length B.c)):=fun w1 b=>by
  obtain ⟨cs,rv,sl,hq,_⟩:=h.below b
  exact (hq.cell 1).trans hq.c1
 have HR:Hid (∀ w2:World,PLeft B S (M.upd t (askP m)) w w2->Calls Tryz.prog 85 #[.pointer (some ⟨B.x,0,none⟩),.int .i64 t] w2 fun e w'=>e=.returned (.tuple #[])/\KLeft B S none_ ((K.asks t m).recv 7 t true) w w'):=fun w2 L=>by
  obtain ⟨⟨S',h',o'⟩,F'⟩:=L
  have hu2:(K.asks t m).threads[t]? = some { u with dst:=m.dst,mw:=m.words,item:=m.item,rt:=m.rt,frm:=m.frm,win:=m.win,wait:=m.wait }:=get_modify _ hu
  have R2:Rel (only t) (M.upd t (askP m)) (K.asks t m):=(R.asks hu s1 m (by omega)).acts (fun i=>by unfold Wi none_ only;simp)
  refine (recv_rel 7 B S' _ (K.asks t m) _ t _ true w2 h' R2 (ok.ft.asks t m mi.2.2.2.2.2.1 (by omega)) (num_clo.asks _ K t m ok.nm) hu2 (by simp [s1]) ?_).mono ?_
  ·have:=sending_le (K.asks t m).threads
   have e9:(K.asks t m).threads.length=K.threads.length:=by simp [RM.asks,RM.upd]
   have:=ok.ft.six
   split <;> omega
  ·rintro e w' ⟨rfl,L2⟩
   exact ⟨rfl,KLeft.then o' F' L2⟩
 have tl:=(List.getElem?_eq_some_iff.1 hp).1
 have h6:=R.six ok.ft
 have lg:=(h.ltS (talk_state h hp m).2.2.2)
 have lx:B.x < w.heap.size:=by obtain ⟨cs,rv,sl,hq,_⟩:=h;exact hq.lx
 have hd':(m.dst == -1)=true:=by simp [hd]
 generalize M.threads.length=k at *
 have tl':(t:Int) < (k:Int):=by omega
 clear h R ok hc hb hm mi hu s1 hp hd
 go_enter Tryz.func47,Tryz.ntmps47
 go_wp2_with (first
  | (go_at_call 82;refine HC.out.mono ?_;rintro e w2 ⟨rfl,rfl⟩)
  | (go_at_call 84;refine HI.out.mono ?_;rintro e w1 ⟨rfl,H1⟩;have A1:=HA.out H1;have x1:=HX.out w1 A1.2.2.2;obtain ⟨c0,c1,c2,c3,c4,c5,c6⟩:=cells7 A1.2.2.1;have HT:=hid A1.1;have H2:=hid A1.2.1;clear H1 A1)
  | (with_reducible (show wpList _ _ _ (⟨_,.store 156 _ _,_,_,_,none⟩ :: _) _ _);go_must (refine wpList_store_mid rfl 156 _ _ rfl B.g (t*17+8) (talkV m) rfl rfl HT.out (by kernel_rfl) (talk_one m) ?_);go_must (clear HT c0 c1 c2 c3 c4 c5 c6 x1);go_must (generalize w1.setCells B.g (t*17+8) (talkV m).toList=w2 at H2 ⊢);go_must (have d0:=(cells7 H2.out.b).1))
  | (go_at_call 85;refine (HR.out w2 H2.out.l).mono ?_;rintro e w3 ⟨rfl,H3⟩;replace H3:=hid H3))
 go_ret
 rw [E.out]
 exact ⟨rfl,H3.out⟩
structure Packed (B:Bk) (S:Nat->Prop) (M:PM) (m:Ms) (t:Nat) (sa:Option Addr) (sc:Nat) (w w4:World):Prop where
 l:PLeft B S ((M.upd t (askP m)).upd t (fun p=>{ p with pw:=m.words,item:=m.item,rt:=m.rt })) w w4
 b:w4.heap[w.heap.size]? = some (.cells (mC m sa sc) 43 (0,0))
theorem packed_of (h:PRep w B S M) (hp:M.threads[t]? = some p) (hl:m.words.length<=4){w2 w3:World}(A:Asked B S M m t sa sc w w2){a:Option Addr}{c:Nat}(G:Grew 2 1 (.slice none 0 0) w2 (.slice a m.words.length c) ([] ++ m.words.map lnI) w3) :
  w3.there B.g (t*17+9) (parV a m.words.length c m.item m.rt).size/\Packed B S M m t sa sc w (w3.setCells B.g (t*17+9) (parV a m.words.length c m.item m.rt).toList)/\w3.heap[w.heap.size]? = some (.cells (mC m sa sc) 43 (0,0)):=by
 obtain ⟨⟨⟨S',h',o'⟩,F'⟩,b2⟩:=A
 have hp2:(M.upd t (askP m)).threads[t]? = some (askP m p):=get_modify _ hp
 have T:=parcel_state h' hp2 m.words m.item m.rt a c hl G
 have lg:B.g < w.heap.size:=h.ltS (talk_state h hp m).2.2.2
 have l2:w.heap.size < w2.heap.size:=(Array.getElem?_eq_some_iff.1 b2).1
 refine ⟨T.1,⟨?_,(T.2.2.1.block _ l2 (by omega)).trans b2⟩,(T.2.2.2.block _ l2 (fun h=>h)).trans b2⟩
 exact PLeft.next (M1:=M.upd t (askP m)) ⟨⟨S',h',o'⟩,F'⟩ (fun S2 h2=>(parcel_state h2 hp2 m.words m.item m.rt a c hl G).2.1)
include IM in
theorem mIpc_send (h:PRep w B S M) (R:Rel none_ M K) (ok:K.Ok n) (hc:K.cur=t) (hu:K.threads[t]? = some u) (s1:u.st=1) (hp:M.threads[t]? = some p) (hm:isMs K.threads.length m=true) (hd:0<=m.dst)
  (hI:Inl w 1 (.slice sa m.words.length sc) (m.words.map lnI)) (hN:∀ k,inBlock (.slice sa m.words.length sc)=some k->¬ S k) :
  Calls Tryz.prog 47 #[.pointer (some ⟨B.x,0,none⟩),.agg (mC m sa sc)] w fun e w'=>e=.returned .nilIface/\(K.ipc m).1=0/\KLeft B S none_ (K.ipc m).2 w w':=by
 have hb:Below w.heap.size w (w.alloc (.cells (mC m sa sc) 43)):=(Below.refl _ w).alloc (Nat.le_refl _) _
 have HC:=hid (caller_yes B S M K t _ (h.below hb) R ok.ft hc)
 have HI:=hid (IM B S M _ m sa sc _ (h.below hb) R.len ok.ft.six)
 rw [hm] at HI
 have mi:=isMs_in hm
 obtain ⟨i0,hi0,hz0,hz1,hz2⟩:=info_parts Tryz.infoN2
 have HA:Hid (∀ {w1:World},Below (w.alloc (.cells (mC m sa sc) 43)).heap.size (w.alloc (.cells (mC m sa sc) 43)) w1->_):=fun {w1} hb=>asked_of B S M t p m sa sc w h hp hb
 have HP:Hid (∀ {w2 w3:World}{a:Option Addr}{c:Nat},Asked B S M m t sa sc w w2->Grew 2 1 (.slice none 0 0) w2 (.slice a m.words.length c) ([] ++ m.words.map lnI) w3->_):=fun {w2 w3 a c} A G=>packed_of B S M t p m sa sc w h hp mi.2.2.2.2.2.1 A G
 have HX:Hid (∀ w1:World,Below w.heap.size w w1->w1.cell? ⟨B.x,1,none⟩=some (.slice (some ⟨B.g,0,none⟩) M.threads.length B.c)):=fun w1 b=>by
  obtain ⟨cs,rv,sl,hq,_⟩:=h.below b
  exact (hq.cell 1).trans hq.c1
 have HW:Hid (∀ w2:World,Asked B S M m t sa sc w w2->Inl w2 1 (.slice sa m.words.length sc) (m.words.map lnI)):=fun w2 A=>hI.kept (by omega) A.l.2 hN
 have HR:Hid (∀ w4:World,Packed B S M m t sa sc w w4->Calls Tryz.prog 86 #[.pointer (some ⟨B.x,0,none⟩),.int .i64 t,.int .i64 m.dst] w4 fun e w'=>e=.returned (.tuple #[])/\(K.ipc m).1=0/\KLeft B S none_ (K.ipc m).2 w w'):=fun w4 L=>by
  obtain ⟨⟨⟨S',h',o'⟩,F'⟩,_⟩:=L
  have R2:Rel (only t) (M.upd t (askP m)) (K.asks t m):=(R.asks hu s1 m (by omega)).acts (fun i=>by unfold Wi none_ only;simp)
  have R3:=R2.parcel (i:=t) rfl (fun p=>{ p with pw:=m.words,item:=m.item,rt:=m.rt }) (fun p=>⟨p.tgt,m.words,m.item,m.rt,rfl⟩)
  have hp2:(M.upd t (askP m)).threads[t]? = some (askP m p):=get_modify _ hp
  have hp3:((M.upd t (askP m)).upd t (fun p=>{ p with pw:=m.words,item:=m.item,rt:=m.rt })).threads[t]? = some { askP m p with pw:=m.words,item:=m.item,rt:=m.rt }:=get_modify _ hp2
  refine (send_ipc B S' _ K n t u _ m w4 h' R3 ok hc hu s1 hm hd hp3 ⟨rfl,rfl,rfl⟩).mono ?_
  rintro e w' ⟨rfl,e0,L2⟩
  exact ⟨rfl,e0,KLeft.then o' F' L2⟩
 have tl:=(List.getElem?_eq_some_iff.1 hp).1
 have h6:=R.six ok.ft
 have lg:=(h.ltS (talk_state h hp m).2.2.2)
 have lx:B.x < w.heap.size:=by obtain ⟨cs,rv,sl,hq,_⟩:=h;exact hq.lx
 have hd':(m.dst == -1)=false:=by simp;omega
 have HL:=hid mi.2.2.2.2.2.1
 generalize M.threads.length=k at *
 have tl':(t:Int) < (k:Int):=by omega
 clear h R ok hc hb hm mi hu s1 hp hd hI hN
 go_enter Tryz.func47,Tryz.ntmps47
 go_wp2_with (first
  | (go_at_call 82;refine HC.out.mono ?_;rintro e w2 ⟨rfl,rfl⟩)
  | (go_at_call 84;refine HI.out.mono ?_;rintro e w1 ⟨rfl,H1⟩;have A1:=HA.out H1;have x1:=HX.out w1 A1.2.2.2;obtain ⟨c0,c1,c2,c3,c4,c5,c6⟩:=cells7 A1.2.2.1;have HT:=hid A1.1;have H2:=hid A1.2.1;clear H1 A1)
  | (with_reducible (show wpList _ _ _ (⟨_,.store 156 _ _,_,_,_,none⟩ :: _) _ _);go_must (refine wpList_store_mid rfl 156 _ _ rfl B.g (t*17+8) (talkV m) rfl rfl HT.out (by kernel_rfl) (talk_one m) ?_);go_must (clear HT c0 c1 c2 c3 c4 c5 c6 x1);go_must (generalize w1.setCells B.g (t*17+8) (talkV m).toList=w2 at H2 ⊢);go_must (obtain ⟨c0,c1,c2,c3,c4,c5,c6⟩:=cells7 H2.out.b))
  | (at_builtin;go_must (refine wpList_append_n _ rfl _ _ 39 rfl 2 i0 _ 1 8 Tryz.underlying39 hi0 hz0 hz1 hz2 rfl (by decide) (.slice none 0 0) [] rfl (Sl.nil _ _ _) sa m.words.length sc _ rfl (HW.out w2 H2.out) m.words.length (by simp) (by have:=HL.out;unfold maxLen;omega) (by have:=HL.out;omega) ?_);intro a3 d3 w3 G3;have P3:=HP.out H2.out G3;clear c0 c1 c2 c3 c4 c5 c6;obtain ⟨c0,c1,c2,c3,c4,c5,c6⟩:=cells7 P3.2.2;have HT:=hid P3.1;have H4:=hid P3.2.1;clear P3 G3)
  | (with_reducible (show wpList _ _ _ (⟨_,.store 154 _ _,_,_,_,none⟩ :: _) _ _);go_must (refine wpList_store_mid rfl 154 _ _ rfl B.g (t*17+9) (parV a3 m.words.length d3 m.item m.rt) rfl rfl HT.out (by kernel_rfl) (par_one _ _ _ _ _) ?_);go_must (clear HT c0 c1 c2 c3 c4 c5 c6);go_must (generalize w3.setCells B.g (t*17+9) (parV a3 m.words.length d3 m.item m.rt).toList=w4 at H4 ⊢);go_must (have c0:=(cells7 H4.out.b).1))
  | (go_at_call 86;refine (HR.out w4 H4.out).mono ?_;rintro e w5 ⟨rfl,H5⟩;replace H5:=hid H5))
 go_ret
 exact ⟨rfl,H5.out⟩
end
end Go.Proofs.YteejjgbeknnmeaaGreatDoor
