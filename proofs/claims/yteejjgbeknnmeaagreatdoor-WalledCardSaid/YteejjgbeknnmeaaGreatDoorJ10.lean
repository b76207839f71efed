import Derived.Test.YteejjgbeknnmeaaGreatDoorJ08
set_option maxRecDepth 100000
set_option maxHeartbeats 20000000
namespace Go.Proofs.YteejjgbeknnmeaaGreatDoor
open Go.RowKit
section
variable {Rep:World->Nat->(Nat->Prop)->RM->Prop}(A:ApM Rep)
include A in
theorem walled_any (PT PP PL:List Int) (aT aP aL:Option Addr) (mT cT mP cP mL cL:Nat) (ac:List (Ac×Sv)) (aA:Option Addr) (mA cA:Nat) (ah:List (Ac×Sv)) (aH:Option Addr) (mH cH:Nat) (at_:List (Ac×Sv)) (aE:Option Addr) (mE cE:Nat) (w:World) (hg:Gl w) (iT:Inl w 1 (.slice aT mT cT) (PT.map lnI)) (iP:Inl w 1 (.slice aP mP cP) (PP.map lnI)) (iL:Inl w 1 (.slice aL mL cL) (PL.map lnI)) (lT:PT.length=mT) (lP:PP.length=mP) (lL:PL.length=mL) (bT:mT<=100000000000000) (bP:mP<=100000000000000) (bL:mL<=100000000000000)
  (rT:∀ z∈PT,-9223372036854775808<=z/\z<=9223372036854775807) (rP:∀ z∈PP,-9223372036854775808<=z/\z<=9223372036854775807) (rL:∀ z∈PL,-9223372036854775808<=z/\z<=9223372036854775807)
  (iA:Inl w 7 (.slice aA mA cA) (ac.map (fun p=>(acA p.1 p.2).toList))) (lA:ac.length=mA) (bA:mA<=100000000000000) (hA:∀ p∈ac,AcOk w p.1 p.2)
  (iH:Inl w 7 (.slice aH mH cH) (ah.map (fun p=>(acA p.1 p.2).toList))) (lH:ah.length=mH) (_bH:mH<=100000000000000) (hH:∀ p∈ah,AcOk w p.1 p.2)
  (iE:Inl w 7 (.slice aE mE cE) (at_.map (fun p=>(acA p.1 p.2).toList))) (lE:at_.length=mE) (_bE:mE<=100000000000000) (hE:∀ p∈at_,AcOk w p.1 p.2) :
  Calls Tryz.prog 13 #[.agg #[.slice aT mT cT,.slice aP mP cP,.slice aL mL cL],.slice aA mA cA,.slice aH mH cH,.slice aE mE cE] w fun e w'=>e=.returned (.bool true)/\Below w.heap.size w w':=by
 have b0:Below w.heap.size w (w.alloc (.cells #[.slice aT mT cT,.slice aP mP cP,.slice aL mL cL] 58)):=(Below.refl _ w).alloc (Nat.le_refl _) _
 have C1:=hid (known_any A _ (hg.below b0))
 have HP0:=hid (heap_alloc_new w (.cells #[.slice aT mT cT,.slice aP mP cP,.slice aL mL cL] 58))
 have CF:=hid (fun (w1:World) (hb:Below w.heap.size w w1)=>config_true PT PP PL aT aP aL mT cT mP cP mL cL w1 (iT.below (by omega) hb) (iP.below (by omega) hb) (iL.below (by omega) hb) lT lP lL bT bP bL rT rP rL)
 have HA:=hid (And.intro iA (And.intro lA hA))
 have HAH:=hid (And.intro iH (And.intro lH hH))
 have HAE:=hid (And.intro iE (And.intro lE hE))
 have HG:=hid (And.intro hg b0)
 clear b0 iT iP iL lT lP lL rT rP rL iA lA hA hg bT bP bL iH lH hH iE lE hE
 go_enter Tryz.func13,Tryz.ntmps13
 go_wp2_with fail
 refine C1.out.mono ?_
 rintro e w1 ⟨rfl,B1⟩
 have b1:Below w.heap.size w w1:=HG.out.2.trans (B1.mono (by simp))
 have C2:=hid (CF.out w1 b1)
 have p1:w1.rangeAt w.heap.size 0 [.slice aT mT cT,.slice aP mP cP,.slice aL mL cL]:=range_of ((B1.block w.heap.size (by simp)).trans HP0.out)
 have HP1:=hid p1
 have HB1:=hid b1
 clear B1 b1 p1 CF HP0 C1
 go_wp2_with (with_reducible (show wpList _ _ _ (⟨_,.load 58 _,_,_,_,none⟩ :: _) _ _);go_must (refine wpList_load_mid rfl 58 _ rfl w.heap.size 0 rfl _ _ HP1.out Tryz.underlying58 rfl (by kernel_rfl) ?_))
 refine C2.out.mono ?_
 rintro e w2 ⟨T,Q,L,a1,a2,a3,c1,c2,c3,rfl,j1,j2,j3,B2,hf,hfr,hz0⟩
 obtain ⟨n1,hn1⟩:∃ n1,T.length=n1:=⟨_,rfl⟩
 obtain ⟨n2,hn2⟩:∃ n2,Q.length=n2:=⟨_,rfl⟩
 obtain ⟨n3,hn3⟩:∃ n3,L.length=n3:=⟨_,rfl⟩
 rw [hn1] at j1 ⊢
 rw [hn2] at j2 ⊢
 rw [hn3] at j3 ⊢
 have n16:n1<=6:=by rw [<- hn1];exact hf.2.1.2
 have bB:Below w2.heap.size w2 (w2.alloc (.cells #[.int .i64 3,.slice a1 n1 c1,.slice a2 n2 c2,.slice a3 n3 c3] 32)):=(Below.refl _ w2).alloc (Nat.le_refl _) _
 have hCB:=heap_alloc_new w2 (.cells #[.int .i64 3,.slice a1 n1 c1,.slice a2 n2 c2,.slice a3 n3 c3] 32)
 have b2:Below w.heap.size w w2:=HB1.out.trans (B2.mono HB1.out.size)
 obtain ⟨WB,hWB⟩:∃ WB,w2.alloc (.cells #[.int .i64 3,.slice a1 n1 c1,.slice a2 n2 c2,.slice a3 n3 c3] 32)=WB:=⟨_,rfl⟩
 have lCB:w2.heap.size < WB.heap.size:=by rw [<- hWB];simp
 rw [hWB] at bB hCB
 have bW:Below w.heap.size w WB:=b2.trans (bB.mono b2.size)
 have gW:=HG.out.1.below bW
 have C3:=hid (boot_any A 3 a1 a2 a3 n1 n2 n3 c1 c2 c3 T Q L WB gW (j1.below (by omega) bB) (j2.below (by omega) bB) (j3.below (by omega) bB) hf 0)
 have C4:=hid (fun (w':World) (hb:Below WB.heap.size WB w')=>boot_any A 3 a1 a2 a3 n1 n2 n3 c1 c2 c3 T Q L w' (gW.below hb) ((j1.below (by omega) bB).below (by omega) hb) ((j2.below (by omega) bB).below (by omega) hb) ((j3.below (by omega) bB).below (by omega) hb) hf 0)
 have HC:=hid (And.intro hCB (And.intro (j1.below (by omega) bB) gW))
 have HF:=hid (And.intro hf (And.intro (tw_new hf (hz0 rfl) hfr) (And.intro hn1 bW)))
 have HI:=hid (And.intro (HA.out.1.below (by omega) bW) (And.intro HA.out.2.1 (fun p hp=>(HA.out.2.2 p hp).below bW)))
 have HIH:=hid (And.intro (HAH.out.1.below (by omega) bW) (And.intro HAH.out.2.1 (fun p hp=>(HAH.out.2.2 p hp).below bW)))
 have HIE:=hid (And.intro (HAE.out.1.below (by omega) bW) (And.intro HAE.out.2.1 (fun p hp=>(HAE.out.2.2 p hp).below bW)))
 have HWB:=hid hWB
 obtain ⟨cb,hcb⟩:∃ cb,w2.heap.size=cb:=⟨_,rfl⟩
 have RC:=hid (show WB.rangeAt w2.heap.size 0 [.int .i64 3,.slice a1 n1 c1,.slice a2 n2 c2,.slice a3 n3 c3] from range_of hCB)
 have Hcb:=hid hcb
 clear bB hCB b2 hWB bW j1 j2 j3 B2 hf hfr hn1 hn2 hn3 C2 HP1 HB1 HA HAH HAE HG hcb hz0 gW
 go_wp2_with (first
  | (with_reducible (show wpList _ _ _ (⟨_,.store 32 _ _,_,_,_,none⟩ :: _) _ _);go_must (refine wpList_store_new rfl 32 _ _ rfl w2 _ #[.int .i64 3,.slice a1 n1 c1,.slice a2 n2 c2,.slice a3 n3 c3] 32 (by simp [Act.eval]) rfl (by kernel_rfl) rfl (by simp [Value.oneCell']) ?_);rw [HWB.out])
  | (with_reducible (show wpList _ _ _ (⟨_,.load 32 _,_,_,_,none⟩ :: _) _ _);go_must (refine wpList_load_mid rfl 32 _ rfl w2.heap.size 0 rfl _ _ RC.out Tryz.underlying32 rfl (by kernel_rfl) ?_)))
 refine C3.out.mono ?_
 rintro e w3 ⟨x,S3,rfl,K3,B3⟩
 have C5:=hid (C4.out w3 B3)
 have RD:=hid (show w3.rangeAt w2.heap.size 0 [.int .i64 3,.slice a1 n1 c1,.slice a2 n2 c2,.slice a3 n3 c3] from range_of ((B3.block _ lCB).trans HC.out.1))
 have HK3:=hid (And.intro K3 B3)
 clear K3 B3 C3 C4 RC
 go_wp2_with (with_reducible (show wpList _ _ _ (⟨_,.load 32 _,_,_,_,none⟩ :: _) _ _);go_must (refine wpList_load_mid rfl 32 _ rfl w2.heap.size 0 rfl _ _ RD.out Tryz.underlying32 rfl (by kernel_rfl) ?_))
 refine C5.out.mono ?_
 rintro e w4 ⟨y,S4,rfl,K4,B4⟩
 have HW0:=hid (show KW Rep WB w4 x y T (F0 L) (RK.new 3 T Q L).up (RK.new 3 T Q L).up 0 from ⟨⟨S3,S4,HK3.out.1.below A B4,K4.base HC.out.2.2 HK3.out.2,fun b h1 h2=>by have h3:=HK3.out.1.lt A b h1;have h4:=K4.new b h2;omega⟩,HF.out.2.1,rfl,rfl⟩)
 rw [Hcb.out] at HC lCB ⊢
 have d1:=(plan_cell HW0.out.kp.bel HC.out.1 lCB 1).trans (show _=some (Value.slice a1 n1 c1) from rfl)
 have lcb:=block_lt_of_cell d1
 clear K4 B4 C5 HK3 RD HWB Hcb
 go_upto_block 0 with fail
 go_wp2_with fail
 clear d1 lcb
 go_loopw [14] (fun i wr=>∃ (j:Nat) (K K2:RM),j<=80/\j<=mA/\i=.int .i64 j/\Hid (KW Rep WB wr x y T (F0 L) K K2 (2*j))) (fun i _=>80-(intOf i).toNat)
 case atStart=>exact ⟨0,_,_,by omega,by omega,rfl,HW0.out⟩
 case round=>
  clear HW0
  obtain ⟨j,K,K2,hj8,hjA,rfl,HK⟩:=hrel
  by_cases h6:j < 80/\j < mA
  ·have h61:(j:Int) < 80:=by omega
   have h6A:(j:Int) < (mA:Int):=by omega
   have h6m:=hid h6
   have CX:=hid (kp_cur_x A HK.out.kp)
   obtain ⟨ca,hca⟩:∃ ca,K.cur=ca:=⟨_,rfl⟩
   obtain ⟨cb2,hcb2⟩:∃ cb2,K2.cur=cb2:=⟨_,rfl⟩
   rw [hca] at CX
   have HCA:=hid hca
   have HCB:=hid hcb2
   have HK0:=hid HK.out
   obtain ⟨ma,hma⟩:=bool_of (∃ t:Nat,ca=t/\Z0 T t)
   obtain ⟨mb,hmb⟩:=bool_of (∃ t:Nat,cb2=t/\Z0 T t)
   have HMA:=hid hma
   have HMB:=hid hmb
   clear hca hcb2 HK h6 hma hmb
   go_wp2_with fail
   refine CX.out.mono ?_
   rintro e w5 ⟨rfl,k5⟩
   have CY:=hid (kp_cur_y A k5)
   rw [HCB.out] at CY
   clear k5 CX
   go_wp2_with fail
   refine CY.out.mono ?_
   rintro e wc0 ⟨rfl,k6⟩
   have HKW:=hid (show KW Rep WB wc0 x y T (F0 L) K K2 (2*j) from ⟨k6,HK0.out.tw,HK0.out.s1,HK0.out.s2⟩)
   clear k6 CY HK0
   go_upto_region 13 with fail
   go_cut [17] from 55 to 65 (fun v wx=>v=.bool ma/\wx=wc0)
   case first=>
    by_cases hneg:ca < 0
    ·have em:ma=false:=by
      cases hb:ma with
      | false=>rfl
      | true=>obtain ⟨t,e,_⟩:=HMA.out.1 hb;omega
     subst em
     go_wp2_with fail
     go_meet
     exact ⟨rfl,rfl⟩
    ·obtain ⟨t,ht⟩:∃ t:Nat,ca=t:=Int.eq_ofNat_of_zero_le (by omega)
     have tn:t < n1:=by
      obtain ⟨j,u,ej,hu,_⟩:=K.cur_in (by rw [HCA.out];exact hneg)
      have:j=t:=by rw [HCA.out] at ej;omega
      subst this
      have:=(List.getElem?_eq_some_iff.1 hu).1
      rw [HKW.out.tw.s1.ln,HF.out.2.2.1] at this
      exact this
     have tn':(t:Int) < (n1:Int):=by omega
     obtain ⟨p,hp⟩:∃ p,T[t]? = some p:=⟨_,List.getElem?_eq_getElem (by rw [HF.out.2.2.1];exact tn)⟩
     obtain ⟨bt,ot,ea,rt⟩:=(HC.out.2.1.below (by omega) HKW.out.kp.bel).row (k:=t) (r:=tRow p) (by rw [List.getElem?_map,hp];rfl)
     have ct:wc0.cell? ⟨bt,ot+t*2,none⟩=some (.int .i64 p.1):=rt 0 _ rfl
     have d1:=(plan_cell HKW.out.kp.bel HC.out.1 lCB 1).trans (show _=some (Value.slice a1 n1 c1) from rfl)
     rw [ea] at d1
     have lbt:=block_lt_of_cell ct
     have lcb:=block_lt_of_cell d1
     have em:ma=(p.1 == 0):=by
      cases hb:ma with
      | true=>
       obtain ⟨t2,e,q,hq,e0⟩:=HMA.out.1 hb
       have:t2=t:=by omega
       subst this
       rw [hp] at hq
       cases hq
       simp [e0]
      | false=>
       cases hc:(p.1 == 0) with
       | false=>rfl
       | true=>
        have:=HMA.out.2 ⟨t,ht,p,hp,by simpa using hc⟩
        rw [hb] at this
        cases this
     subst ht
     subst em
     clear ea hp rt hneg tn
     by_cases hz:p.1=0
     ·have f0:(p.1 == 0)=true:=by simpa using hz
      clear hz
      try rw [f0]
      go_wp2_with fail
      go_meet
      first | exact ⟨rfl,rfl⟩ | exact ⟨by rw [f0],rfl⟩
     ·have f0:(p.1 == 0)=false:=by simpa using hz
      clear hz
      try rw [f0]
      go_wp2_with fail
      go_meet
      first | exact ⟨rfl,rfl⟩ | exact ⟨by rw [f0],rfl⟩
   case rest=>
    obtain ⟨rfl,hwc⟩:=hcut
    have hwc:=hwc.symm
    subst hwc
    go_upto_region 14 with fail
    go_cut [18] from 66 to 76 (fun v wx=>v=.bool mb/\wx=wc0)
    case first=>
     by_cases hneg:cb2 < 0
     ·have em:mb=false:=by
       cases hb:mb with
       | false=>rfl
       | true=>obtain ⟨t,e,_⟩:=HMB.out.1 hb;omega
      subst em
      go_wp2_with fail
      go_meet
      exact ⟨rfl,rfl⟩
     ·obtain ⟨t,ht⟩:∃ t:Nat,cb2=t:=Int.eq_ofNat_of_zero_le (by omega)
      have tn:t < n1:=by
       obtain ⟨j,u,ej,hu,_⟩:=K2.cur_in (by rw [HCB.out];exact hneg)
       have:j=t:=by rw [HCB.out] at ej;omega
       subst this
       have:=(List.getElem?_eq_some_iff.1 hu).1
       rw [HKW.out.tw.s2.ln,HF.out.2.2.1] at this
       exact this
      have tn':(t:Int) < (n1:Int):=by omega
      obtain ⟨p,hp⟩:∃ p,T[t]? = some p:=⟨_,List.getElem?_eq_getElem (by rw [HF.out.2.2.1];exact tn)⟩
      obtain ⟨bt,ot,ea,rt⟩:=(HC.out.2.1.below (by omega) HKW.out.kp.bel).row (k:=t) (r:=tRow p) (by rw [List.getElem?_map,hp];rfl)
      have ct:wc0.cell? ⟨bt,ot+t*2,none⟩=some (.int .i64 p.1):=rt 0 _ rfl
      have d1:=(plan_cell HKW.out.kp.bel HC.out.1 lCB 1).trans (show _=some (Value.slice a1 n1 c1) from rfl)
      rw [ea] at d1
      have lbt:=block_lt_of_cell ct
      have lcb:=block_lt_of_cell d1
      have em:mb=(p.1 == 0):=by
       cases hb:mb with
       | true=>
        obtain ⟨t2,e,q,hq,e0⟩:=HMB.out.1 hb
        have:t2=t:=by omega
        subst this
        rw [hp] at hq
        cases hq
        simp [e0]
       | false=>
        cases hc:(p.1 == 0) with
        | false=>rfl
        | true=>
         have:=HMB.out.2 ⟨t,ht,p,hp,by simpa using hc⟩
         rw [hb] at this
         cases this
      subst ht
      subst em
      clear ea hp rt hneg tn
      by_cases hz:p.1=0
      ·have f0:(p.1 == 0)=true:=by simpa using hz
       clear hz
       try rw [f0]
       go_wp2_with fail
       go_meet
       first | exact ⟨rfl,rfl⟩ | exact ⟨by rw [f0],rfl⟩
      ·have f0:(p.1 == 0)=false:=by simpa using hz
       clear hz
       try rw [f0]
       go_wp2_with fail
       go_meet
       first | exact ⟨rfl,rfl⟩ | exact ⟨by rw [f0],rfl⟩
    case rest=>
     obtain ⟨rfl,hwc⟩:=hcut
     have hwc:=hwc.symm
     subst hwc
     cases ma with
     | true=>
      cases mb with
      | true=>
       obtain ⟨t,rfl,zt⟩:=HMA.out.1 rfl
       obtain ⟨t2,e2,zt2⟩:=HMB.out.1 rfl
       have et:t=t2:=cur_two HKW.out.tw HCA.out (HCB.out.trans e2) zt zt2
       subst et
       subst e2
       have CM:=hid (kp_mem A HKW.out.kp (load_two HKW.out.tw HCA.out HCB.out zt))
       have HZT:=hid (And.intro HCA.out (And.intro HCB.out zt))
       clear zt zt2 HMA HMB HCA HCB
       go_wp2_with fail
       refine CM.out.mono ?_
       rintro e w6 ⟨rfl,k6⟩
       obtain ⟨p,hp⟩:∃ p,ac[j]? = some p:=⟨_,List.getElem?_eq_getElem (by have:=HI.out.2.1;have:=h6m.out;omega)⟩
       have okp:=hid (HI.out.2.2 p (List.mem_of_getElem? hp))
       have rp:=hid (fun (w':World) (hb:Below WB.heap.size WB w')=>(HI.out.1.below (by omega) hb).row (k:=j) (r:=(acA p.1 p.2).toList) (by rw [List.getElem?_map,hp];rfl))
       obtain ⟨bl,ol,ea,_⟩:=rp.out WB (Below.refl _ _)
       subst ea
       have Rp:=hid (show ∀ w':World,Below WB.heap.size WB w'->w'.rangeAt bl (ol+j*7) (acA p.1 p.2).toList from fun w' hb=>by
        obtain ⟨b',o',ea,rr⟩:=rp.out w' hb
        simp only [Option.some.injEq,Addr.mk.injEq] at ea
        obtain ⟨rfl,rfl,_⟩:=ea
        exact rr)
       clear rp
       have Hk6:=hid k6
       have HP:=hid hp
       clear k6 CM hp
       go_upto_if 111 with fail
       go_cut [19] from 112 to 181 (fun v wx=>∃ K' K2',Hid (KW Rep WB wx x y T (F0 L) K' K2' (2*j+2)))
       case first=>
        have CDX:=hid (kp_does_x A Hk6.out (by omega) p.1 p.2 okp.out n1 n16)
        have RX:=hid (Rp.out _ (Hk6.out).bel)
        go_wp2_with (with_reducible (show wpList _ _ _ (⟨_,.load 63 _,_,_,_,none⟩ :: _) _ _);go_must (refine wpList_load_mid rfl 63 _ rfl bl (ol+j*7) rfl _ _ RX.out Tryz.underlying63 rfl (by kernel_rfl) ?_))
        refine CDX.out.mono ?_
        rintro e w7 ⟨rfl,k7⟩
        have CDY:=hid (kp_does_y A k7 (by omega) p.1 p.2 okp.out n1 n16)
        have RY:=hid (Rp.out _ k7.bel)
        clear k7 CDX RX
        go_wp2_with (with_reducible (show wpList _ _ _ (⟨_,.load 63 _,_,_,_,none⟩ :: _) _ _);go_must (refine wpList_load_mid rfl 63 _ rfl bl (ol+j*7) rfl _ _ RY.out Tryz.underlying63 rfl (by kernel_rfl) ?_))
        refine CDY.out.mono ?_
        rintro e w8 ⟨rfl,k8⟩
        have HM:=hid (show KW Rep WB w8 x y T (F0 L) (doesM n1 p.1 K) (doesM n1 p.1 K2) (2*j+2) from ⟨k8,HKW.out.tw.does HZT.out.1 HZT.out.2.1 HZT.out.2.2 n1 p.1,by rw [does_sp];exact HKW.out.s1,by rw [does_sp];exact HKW.out.s2⟩)
        clear k8 CDY RY
        go_wp2_with fail
        go_meet
        exact ⟨_,_,HM.out⟩
       case rest=>
        obtain ⟨K',K2',HKZ⟩:=hcut
        have CA:=hid (kp_alike A HKZ.out.kp HKZ.out.tw HKZ.out.s1 HKZ.out.s2 a1 a2 a3 n1 n2 n3 c1 c2 c3 (HC.out.2.1.below (by omega) HKZ.out.kp.bel) HF.out.2.2.1 n16)
        have RB:=hid (show wc.rangeAt cb 0 [.int .i64 3,.slice a1 n1 c1,.slice a2 n2 c2,.slice a3 n3 c3] from range_of ((HKZ.out.kp.bel.block _ lCB).trans HC.out.1))
        have HZ:=hid (And.intro HKZ.out.tw (And.intro HKZ.out.s1 HKZ.out.s2))
        clear HKZ
        go_wp2_with (with_reducible (show wpList _ _ _ (⟨_,.load 32 _,_,_,_,none⟩ :: _) _ _);go_must (refine wpList_load_mid rfl 32 _ rfl cb 0 rfl _ _ RB.out Tryz.underlying32 rfl (by kernel_rfl) ?_))
        refine CA.out.mono ?_
        rintro e w9 ⟨rfl,k9⟩
        have HN:=hid (show KW Rep WB w9 x y T (F0 L) K' K2' (2*(j+1)) from ⟨k9.mono (by omega),HZ.out.1,HZ.out.2.1,HZ.out.2.2⟩)
        clear k9 CA RB HZ
        go_wp2_with fail
        first
         | exact ⟨⟨j+1,K',K2',by have:=h6m.out;omega,by have:=h6m.out;omega,by go_num,HN.out⟩,by simp [intOf];omega⟩
         | (
          go_roundw
          case rel=>first | exact ⟨j+1,K',K2',by have:=h6m.out;omega,by have:=h6m.out;omega,by go_num,HN.out⟩ | ((repeat apply Exists.intro);exact ⟨⟨j+1,K',K2',by have:=h6m.out;omega,by have:=h6m.out;omega,by go_num,HN.out⟩,rfl⟩)
          case measure=>simp [intOf];omega)
      | false=>
       clear HMA HMB HCA HCB
       go_wp2_with fail
       go_ret
       exact ⟨rfl,HF.out.2.2.2.trans (HKW.out.kp.bel.mono HF.out.2.2.2.size)⟩
     | false=>
      cases mb with
      | true=>
       clear HMA HMB HCA HCB
       go_wp2_with fail
       go_ret
       exact ⟨rfl,HF.out.2.2.2.trans (HKW.out.kp.bel.mono HF.out.2.2.2.size)⟩
      | false=>
       have HZX:=hid (show ∀ t:Nat,K.cur=t->¬ Z0 T t from fun t e z=>by cases HMA.out.2 ⟨t,HCA.out.symm.trans e,z⟩)
       have HZY:=hid (show ∀ t:Nat,K2.cur=t->¬ Z0 T t from fun t e z=>by cases HMB.out.2 ⟨t,HCB.out.symm.trans e,z⟩)
       obtain ⟨nb,hnb⟩:=bool_of (¬ (ca < 0↔cb2 < 0))
       have HNB:=hid hnb
       clear hnb HMA HMB HCA HCB
       go_upto_region 17 with fail
       go_cut [95] from 86 to 94 (fun v wx=>v=.bool nb/\wx=wc0)
       case first=>
        obtain ⟨da,hda⟩:∃ da,decide (ca < 0)=da:=⟨_,rfl⟩
        obtain ⟨db,hdb⟩:∃ db,decide (cb2 < 0)=db:=⟨_,rfl⟩
        have em:nb=(da != db):=by
         by_cases sa:ca < 0
         ·by_cases sb:cb2 < 0
          ·have e1:da=true:=by rw [<- hda];simpa using sa
           have e2:db=true:=by rw [<- hdb];simpa using sb
           rw [e1,e2]
           cases hb:nb with
           | false=>rfl
           | true=>exact absurd ⟨fun _=>sb,fun _=>sa⟩ (HNB.out.1 hb)
          ·have e1:da=true:=by rw [<- hda];simpa using sa
           have e2:db=false:=by rw [<- hdb];simpa using sb
           rw [e1,e2]
           exact HNB.out.2 (fun h=>sb (h.1 sa))
         ·by_cases sb:cb2 < 0
          ·have e1:da=false:=by rw [<- hda];simpa using sa
           have e2:db=true:=by rw [<- hdb];simpa using sb
           rw [e1,e2]
           exact HNB.out.2 (fun h=>sa (h.2 sb))
          ·have e1:da=false:=by rw [<- hda];simpa using sa
           have e2:db=false:=by rw [<- hdb];simpa using sb
           rw [e1,e2]
           cases hb:nb with
           | false=>rfl
           | true=>exact absurd ⟨fun h=>absurd h sa,fun h=>absurd h sb⟩ (HNB.out.1 hb)
        subst em
        cases da <;> cases db
        all_goals (go_wp2_with fail;go_meet;exact ⟨rfl,rfl⟩)
       case rest=>
        obtain ⟨rfl,hwc⟩:=hcut
        have hwc:=hwc.symm
        subst hwc
        cases nb with
        | true=>
         clear HNB
         go_wp2_with fail
         go_ret
         exact ⟨rfl,HF.out.2.2.2.trans (HKW.out.kp.bel.mono HF.out.2.2.2.size)⟩
        | false=>
         clear HNB
         obtain ⟨p,hp⟩:∃ p,ac[j]? = some p:=⟨_,List.getElem?_eq_getElem (by have:=HI.out.2.1;have:=h6m.out;omega)⟩
         have okp:=hid (HI.out.2.2 p (List.mem_of_getElem? hp))
         have rp:=hid (fun (w':World) (hb:Below WB.heap.size WB w')=>(HI.out.1.below (by omega) hb).row (k:=j) (r:=(acA p.1 p.2).toList) (by rw [List.getElem?_map,hp];rfl))
         obtain ⟨bl,ol,ea,_⟩:=rp.out WB (Below.refl _ _)
         subst ea
         have Rp:=hid (show ∀ w':World,Below WB.heap.size WB w'->w'.rangeAt bl (ol+j*7) (acA p.1 p.2).toList from fun w' hb=>by
          obtain ⟨b',o',ea,rr⟩:=rp.out w' hb
          simp only [Option.some.injEq,Addr.mk.injEq] at ea
          obtain ⟨rfl,rfl,_⟩:=ea
          exact rr)
         clear rp
         have gp0:wc0.cell? ⟨bl,ol+j*7,none⟩=some (.int .i64 p.1.kd):=Rp.out _ HKW.out.kp.bel 0 _ rfl
         have lbl:=block_lt_of_cell gp0
         have PP:=hid (fun w=>pickK_any p.1.kd 12 w okp.out.b0.1 okp.out.b0.2 (by omega) (by omega))
         have rp:=(pickI_in p.1.kd (n:=12) (by omega)).1
         obtain ⟨pk0,hpk0⟩:∃ pk,pickI p.1.kd 12=pk:=⟨_,rfl⟩
         rw [hpk0] at PP rp
         have HPK:=hid hpk0
         clear hpk0 hp
         go_upto_if 111 with (go_at_call 16;with_reducible refine (PP.out _).mono ?_;rintro e w6 ⟨rfl,hw6⟩;have hw6:=hw6.symm;subst hw6)
         go_cut [19] from 102 to 181 (fun v wx=>∃ K' K2',Hid (KW Rep WB wx x y T (F0 L) K' K2' (2*j+2)))
         case first=>
          by_cases hp2:pk0 < 2
          ·have TW2:=hid (show Tw T (F0 L) (doesM n1 p.1 K) (doesM n1 p.1 K2) by rw [does_tick (by rw [HPK.out];exact hp2) K (by rw [HPK.out];exact rp),does_tick (by rw [HPK.out];exact hp2) K2 (by rw [HPK.out];exact rp)];exact HKW.out.tw.tick_off HZX.out HZY.out)
           have HQ1:=hid HKW.out.kp
           skip
           have CDX:=hid (kp_does_x A HQ1.out (by omega) p.1 p.2 okp.out n1 n16)
           have RX:=hid (Rp.out _ (HQ1.out).bel)
           go_wp2_with (with_reducible (show wpList _ _ _ (⟨_,.load 63 _,_,_,_,none⟩ :: _) _ _);go_must (refine wpList_load_mid rfl 63 _ rfl bl (ol+j*7) rfl _ _ RX.out Tryz.underlying63 rfl (by kernel_rfl) ?_))
           refine CDX.out.mono ?_
           rintro e w7 ⟨rfl,k7⟩
           have CDY:=hid (kp_does_y A k7 (by omega) p.1 p.2 okp.out n1 n16)
           have RY:=hid (Rp.out _ k7.bel)
           clear k7 CDX RX
           go_wp2_with (with_reducible (show wpList _ _ _ (⟨_,.load 63 _,_,_,_,none⟩ :: _) _ _);go_must (refine wpList_load_mid rfl 63 _ rfl bl (ol+j*7) rfl _ _ RY.out Tryz.underlying63 rfl (by kernel_rfl) ?_))
           refine CDY.out.mono ?_
           rintro e w8 ⟨rfl,k8⟩
           have HM:=hid (show KW Rep WB w8 x y T (F0 L) (doesM n1 p.1 K) (doesM n1 p.1 K2) (2*j+2) from ⟨k8,TW2.out,by rw [does_sp];exact HKW.out.s1,by rw [does_sp];exact HKW.out.s2⟩)
           clear k8 CDY RY
           go_wp2_with fail
           go_meet
           exact ⟨_,_,HM.out⟩
          ·have hp2':2<=pk0:=by omega
           have HQ1:=hid HKW.out.kp
           clear hp2
           obtain ⟨bt1,hbt1⟩:=bool_of (∃ p,ah[j]? = some p/\1 < pickI p.1.kd 12/\tickB p.1=false)
           have Hbt1:=hid hbt1
           clear hbt1
           go_upto_region 26 with fail
           go_cut [146] from 126 to 145 (fun v wx=>v=.bool bt1/\Hid (KP Rep WB wx x y K K2 (2*j)))
           case first=>
            by_cases hjH:j < mH
            ·have hjH':(j:Int) < (mH:Int):=by omega
             obtain ⟨ph,hph⟩:∃ p,ah[j]? = some p:=⟨_,List.getElem?_eq_getElem (by have:=HIH.out.2.1;have:=hjH;omega)⟩
             have okph:=hid (HIH.out.2.2 ph (List.mem_of_getElem? hph))
             have rph:=hid (fun (w':World) (hb:Below WB.heap.size WB w')=>(HIH.out.1.below (by omega) hb).row (k:=j) (r:=(acA ph.1 ph.2).toList) (by rw [List.getElem?_map,hph];rfl))
             obtain ⟨bh,oh,ea,_⟩:=rph.out WB (Below.refl _ _)
             subst ea
             have Rph:=hid (show ∀ w':World,Below WB.heap.size WB w'->w'.rangeAt bh (oh+j*7) (acA ph.1 ph.2).toList from fun w' hb=>by
              obtain ⟨b',o',ea,rr⟩:=rph.out w' hb
              simp only [Option.some.injEq,Addr.mk.injEq] at ea
              obtain ⟨rfl,rfl,_⟩:=ea
              exact rr)
             clear rph
             have gh0:wc0.cell? ⟨bh,oh+j*7,none⟩=some (.int .i64 ph.1.kd):=Rph.out _ HQ1.out.bel 0 _ rfl
             have gh1:wc0.cell? ⟨bh,oh+j*7+1,none⟩=some (.int .i64 ph.1.A):=Rph.out _ HQ1.out.bel 1 _ rfl
             have gh2:wc0.cell? ⟨bh,oh+j*7+2,none⟩=some (.int .i64 ph.1.B):=Rph.out _ HQ1.out.bel 2 _ rfl
             have gh3:wc0.cell? ⟨bh,oh+j*7+3,none⟩=some (.int .i64 ph.1.C):=Rph.out _ HQ1.out.bel 3 _ rfl
             have gh4:wc0.cell? ⟨bh,oh+j*7+4,none⟩=some (.int .i64 ph.1.D):=Rph.out _ HQ1.out.bel 4 _ rfl
             have gh5:wc0.cell? ⟨bh,oh+j*7+5,none⟩=some (.int .i64 ph.1.E):=Rph.out _ HQ1.out.bel 5 _ rfl
             have gh6:wc0.cell? ⟨bh,oh+j*7+6,none⟩=some (.slice ph.2.a ph.2.n ph.2.c):=Rph.out _ HQ1.out.bel 6 _ rfl
             have lbh:=block_lt_of_cell gh0
             have RH:=hid (Rph.out _ HQ1.out.bel)
             have PH:=hid (fun w=>pickK_any ph.1.kd 12 w okph.out.b0.1 okph.out.b0.2 (by omega) (by omega))
             have CT:=hid (ticks_any ph.1 ph.2 wc0 okph.out.b0)
             have em:bt1=(decide (1 < pickI ph.1.kd 12) && !(tickB ph.1)):=by
              cases hb:bt1 with
              | true=>
               obtain ⟨p',hp',g1,g2⟩:=Hbt1.out.1 hb
               rw [hph] at hp'
               cases hp'
               simp [g1,g2]
              | false=>
               cases hc:(decide (1 < pickI ph.1.kd 12) && !(tickB ph.1)) with
               | false=>rfl
               | true=>
                simp at hc
                have:=Hbt1.out.2 ⟨ph,hph,hc.1,hc.2⟩
                rw [hb] at this
                cases this
             obtain ⟨pk,hpk⟩:∃ pk,pickI ph.1.kd 12=pk:=⟨_,rfl⟩
             rw [hpk] at PH em
             obtain ⟨tb,htb⟩:∃ tb,tickB ph.1=tb:=⟨_,rfl⟩
             rw [htb] at CT em
             subst em
             clear hph hpk htb Hbt1
             by_cases g1:1 < pk
             ·have f1:decide (1 < pk)=true:=by simpa using g1
              have fg:decide (pk > 1)=true:=by simpa using g1
              cases tb with
              | true=>
               go_wp2_with (first | (go_at_call 16;with_reducible refine (PH.out _).mono ?_;rintro e w6 ⟨rfl,rfl⟩) | (go_at_call 32;refine CT.out.mono ?_;rintro e w6 ⟨rfl,b6⟩;have HM:=hid (HQ1.out.below A b6);clear b6) | (with_reducible (show wpList _ _ _ (⟨_,.load 63 _,_,_,_,none⟩ :: _) _ _);go_must (refine wpList_load_mid rfl 63 _ rfl bh (oh+j*7) rfl _ _ RH.out Tryz.underlying63 rfl (by kernel_rfl) ?_)))
               go_meet
               exact ⟨by rw [f1];rfl,HM.out⟩
              | false=>
               go_wp2_with (first | (go_at_call 16;with_reducible refine (PH.out _).mono ?_;rintro e w6 ⟨rfl,rfl⟩) | (go_at_call 32;refine CT.out.mono ?_;rintro e w6 ⟨rfl,b6⟩;have HM:=hid (HQ1.out.below A b6);clear b6) | (with_reducible (show wpList _ _ _ (⟨_,.load 63 _,_,_,_,none⟩ :: _) _ _);go_must (refine wpList_load_mid rfl 63 _ rfl bh (oh+j*7) rfl _ _ RH.out Tryz.underlying63 rfl (by kernel_rfl) ?_)))
               go_meet
               exact ⟨by rw [f1];rfl,HM.out⟩
             ·have f1:decide (1 < pk)=false:=by simpa using g1
              have g2:pk<=1:=by omega
              clear g1
              go_wp2_with (go_at_call 16;with_reducible refine (PH.out _).mono ?_;rintro e w6 ⟨rfl,rfl⟩)
              go_meet
              exact ⟨by rw [f1];rfl,HQ1.out⟩
            ·have em:bt1=false:=by
              cases hb:bt1 with
              | false=>rfl
              | true=>
               obtain ⟨p',hp',_⟩:=Hbt1.out.1 hb
               have:=(List.getElem?_eq_some_iff.1 hp').1
               have:=HIH.out.2.1
               omega
             subst em
             have g1:(mH:Int)<=(j:Int):=by omega
             clear hjH
             go_wp2_with fail
             go_meet
             exact ⟨rfl,HQ1.out⟩
           case rest=>
            obtain ⟨rfl,HQ12⟩:=hcut
            go_upto_if 146 with fail
            go_cut [19] from 147 to 153 (fun v wx=>∃ K',Hid (KP Rep WB wx x y K' K2 (2*j+1)/\Tw T (F0 L) K' K2/\K'.sp=3))
            case first=>
             cases bt1 with
             | false=>
              have HM:=hid (And.intro (HQ12.out.mono (show 2*j<=2*j+1 by omega)) (And.intro HKW.out.tw HKW.out.s1))
              clear HQ12
              go_wp2_with fail
              go_meet
              exact ⟨K,HM.out⟩
             | true=>
              obtain ⟨ph,hph,g1,g2⟩:=Hbt1.out.1 rfl
              obtain ⟨bh,oh,ea,rr⟩:=(HIH.out.1.below (by omega) HQ12.out.bel).row (k:=j) (r:=(acA ph.1 ph.2).toList) (by rw [List.getElem?_map,hph];rfl)
              subst ea
              have RH:=hid (show wc.rangeAt bh (oh+j*7) (acA ph.1 ph.2).toList from rr)
              have hjH':(j:Int) < (mH:Int):=by have:=(List.getElem?_eq_some_iff.1 hph).1;have:=HIH.out.2.1;omega
              have CDX:=hid (kp_does_x A HQ12.out (by omega) ph.1 ph.2 (HIH.out.2.2 ph (List.mem_of_getElem? hph)) n1 n16)
              have TW2:=hid (Tw.off_x (m:=n1) HF.out.1 HKW.out.tw HQ12.out.ok1 HZX.out ph.1 (tickB_not g1 g2))
              clear hph g1 g2 rr HQ12
              go_wp2_with (with_reducible (show wpList _ _ _ (⟨_,.load 63 _,_,_,_,none⟩ :: _) _ _);go_must (refine wpList_load_mid rfl 63 _ rfl bh (oh+j*7) rfl _ _ RH.out Tryz.underlying63 rfl (by kernel_rfl) ?_))
              refine CDX.out.mono ?_
              rintro e w8 ⟨rfl,k8⟩
              have HM:=hid (show KP Rep WB w8 x y (doesM n1 ph.1 K) K2 (2*j+1)/\Tw T (F0 L) (doesM n1 ph.1 K) K2/\(doesM n1 ph.1 K).sp=3 from ⟨k8,TW2.out,by rw [does_sp];exact HKW.out.s1⟩)
              clear k8 CDX
              go_wp2_with fail
              go_meet
              exact ⟨_,HM.out⟩
            case rest=>
             obtain ⟨K',HKQ⟩:=hcut
             have HQ2:=hid HKQ.out.1
             have HTW:=hid HKQ.out.2
             clear HKQ HQ12
             obtain ⟨bt2,hbt2⟩:=bool_of (∃ p,at_[j]? = some p/\1 < pickI p.1.kd 12/\tickB p.1=false)
             have Hbt2:=hid hbt2
             clear hbt2
             go_upto_region 28 with fail
             go_cut [174] from 154 to 173 (fun v wx=>v=.bool bt2/\Hid (KP Rep WB wx x y K' K2 (2*j+1)))
             case first=>
              by_cases hjH:j < mE
              ·have hjH':(j:Int) < (mE:Int):=by omega
               obtain ⟨ph,hph⟩:∃ p,at_[j]? = some p:=⟨_,List.getElem?_eq_getElem (by have:=HIE.out.2.1;have:=hjH;omega)⟩
               have okph:=hid (HIE.out.2.2 ph (List.mem_of_getElem? hph))
               have rph:=hid (fun (w':World) (hb:Below WB.heap.size WB w')=>(HIE.out.1.below (by omega) hb).row (k:=j) (r:=(acA ph.1 ph.2).toList) (by rw [List.getElem?_map,hph];rfl))
               obtain ⟨bh,oh,ea,_⟩:=rph.out WB (Below.refl _ _)
               subst ea
               have Rph:=hid (show ∀ w':World,Below WB.heap.size WB w'->w'.rangeAt bh (oh+j*7) (acA ph.1 ph.2).toList from fun w' hb=>by
                obtain ⟨b',o',ea,rr⟩:=rph.out w' hb
                simp only [Option.some.injEq,Addr.mk.injEq] at ea
                obtain ⟨rfl,rfl,_⟩:=ea
                exact rr)
               clear rph
               have gh0:wc.cell? ⟨bh,oh+j*7,none⟩=some (.int .i64 ph.1.kd):=Rph.out _ HQ2.out.bel 0 _ rfl
               have gh1:wc.cell? ⟨bh,oh+j*7+1,none⟩=some (.int .i64 ph.1.A):=Rph.out _ HQ2.out.bel 1 _ rfl
               have gh2:wc.cell? ⟨bh,oh+j*7+2,none⟩=some (.int .i64 ph.1.B):=Rph.out _ HQ2.out.bel 2 _ rfl
               have gh3:wc.cell? ⟨bh,oh+j*7+3,none⟩=some (.int .i64 ph.1.C):=Rph.out _ HQ2.out.bel 3 _ rfl
               have gh4:wc.cell? ⟨bh,oh+j*7+4,none⟩=some (.int .i64 ph.1.D):=Rph.out _ HQ2.out.bel 4 _ rfl
               have gh5:wc.cell? ⟨bh,oh+j*7+5,none⟩=some (.int .i64 ph.1.E):=Rph.out _ HQ2.out.bel 5 _ rfl
               have gh6:wc.cell? ⟨bh,oh+j*7+6,none⟩=some (.slice ph.2.a ph.2.n ph.2.c):=Rph.out _ HQ2.out.bel 6 _ rfl
               have lbh:=block_lt_of_cell gh0
               have RH:=hid (Rph.out _ HQ2.out.bel)
               have PH:=hid (fun w=>pickK_any ph.1.kd 12 w okph.out.b0.1 okph.out.b0.2 (by omega) (by omega))
               have CT:=hid (ticks_any ph.1 ph.2 wc okph.out.b0)
               have em:bt2=(decide (1 < pickI ph.1.kd 12) && !(tickB ph.1)):=by
                cases hb:bt2 with
                | true=>
                 obtain ⟨p',hp',g1,g2⟩:=Hbt2.out.1 hb
                 rw [hph] at hp'
                 cases hp'
                 simp [g1,g2]
                | false=>
                 cases hc:(decide (1 < pickI ph.1.kd 12) && !(tickB ph.1)) with
                 | false=>rfl
                 | true=>
                  simp at hc
                  have:=Hbt2.out.2 ⟨ph,hph,hc.1,hc.2⟩
                  rw [hb] at this
                  cases this
               obtain ⟨pk,hpk⟩:∃ pk,pickI ph.1.kd 12=pk:=⟨_,rfl⟩
               rw [hpk] at PH em
               obtain ⟨tb,htb⟩:∃ tb,tickB ph.1=tb:=⟨_,rfl⟩
               rw [htb] at CT em
               subst em
               clear hph hpk htb Hbt2
               by_cases g1:1 < pk
               ·have f1:decide (1 < pk)=true:=by simpa using g1
                have fg:decide (pk > 1)=true:=by simpa using g1
                cases tb with
                | true=>
                 go_wp2_with (first | (go_at_call 16;with_reducible refine (PH.out _).mono ?_;rintro e w6 ⟨rfl,rfl⟩) | (go_at_call 32;refine CT.out.mono ?_;rintro e w6 ⟨rfl,b6⟩;have HM:=hid (HQ2.out.below A b6);clear b6) | (with_reducible (show wpList _ _ _ (⟨_,.load 63 _,_,_,_,none⟩ :: _) _ _);go_must (refine wpList_load_mid rfl 63 _ rfl bh (oh+j*7) rfl _ _ RH.out Tryz.underlying63 rfl (by kernel_rfl) ?_)))
                 go_meet
                 exact ⟨by rw [f1];rfl,HM.out⟩
                | false=>
                 go_wp2_with (first | (go_at_call 16;with_reducible refine (PH.out _).mono ?_;rintro e w6 ⟨rfl,rfl⟩) | (go_at_call 32;refine CT.out.mono ?_;rintro e w6 ⟨rfl,b6⟩;have HM:=hid (HQ2.out.below A b6);clear b6) | (with_reducible (show wpList _ _ _ (⟨_,.load 63 _,_,_,_,none⟩ :: _) _ _);go_must (refine wpList_load_mid rfl 63 _ rfl bh (oh+j*7) rfl _ _ RH.out Tryz.underlying63 rfl (by kernel_rfl) ?_)))
                 go_meet
                 exact ⟨by rw [f1];rfl,HM.out⟩
               ·have f1:decide (1 < pk)=false:=by simpa using g1
                have g2:pk<=1:=by omega
                clear g1
                go_wp2_with (go_at_call 16;with_reducible refine (PH.out _).mono ?_;rintro e w6 ⟨rfl,rfl⟩)
                go_meet
                exact ⟨by rw [f1];rfl,HQ2.out⟩
              ·have em:bt2=false:=by
                cases hb:bt2 with
                | false=>rfl
                | true=>
                 obtain ⟨p',hp',_⟩:=Hbt2.out.1 hb
                 have:=(List.getElem?_eq_some_iff.1 hp').1
                 have:=HIE.out.2.1
                 omega
               subst em
               have g1:(mE:Int)<=(j:Int):=by omega
               clear hjH
               go_wp2_with fail
               go_meet
               exact ⟨rfl,HQ2.out⟩
             case rest=>
              obtain ⟨rfl,HQ22⟩:=hcut
              cases bt2 with
              | false=>
               have HM:=hid (show KW Rep WB wc x y T (F0 L) K' K2 (2*j+2) from ⟨HQ22.out.mono (by omega),HTW.out.1,HTW.out.2,HKW.out.s2⟩)
               clear HQ22
               go_wp2_with fail
               go_meet
               exact ⟨_,_,HM.out⟩
              | true=>
               obtain ⟨ph,hph,g1,g2⟩:=Hbt2.out.1 rfl
               obtain ⟨bh,oh,ea,rr⟩:=(HIE.out.1.below (by omega) HQ22.out.bel).row (k:=j) (r:=(acA ph.1 ph.2).toList) (by rw [List.getElem?_map,hph];rfl)
               subst ea
               have RH:=hid (show wc.rangeAt bh (oh+j*7) (acA ph.1 ph.2).toList from rr)
               have hjH':(j:Int) < (mE:Int):=by have:=(List.getElem?_eq_some_iff.1 hph).1;have:=HIE.out.2.1;omega
               have CDY:=hid (kp_does_y A HQ22.out (by omega) ph.1 ph.2 (HIE.out.2.2 ph (List.mem_of_getElem? hph)) n1 n16)
               have TW2:=hid (Tw.off_y (m:=n1) HF.out.1 HTW.out.1 HQ22.out.ok2 HZY.out ph.1 (tickB_not g1 g2))
               clear hph g1 g2 rr HQ22
               go_wp2_with (with_reducible (show wpList _ _ _ (⟨_,.load 63 _,_,_,_,none⟩ :: _) _ _);go_must (refine wpList_load_mid rfl 63 _ rfl bh (oh+j*7) rfl _ _ RH.out Tryz.underlying63 rfl (by kernel_rfl) ?_))
               refine CDY.out.mono ?_
               rintro e w8 ⟨rfl,k8⟩
               have HM:=hid (show KW Rep WB w8 x y T (F0 L) K' (doesM n1 ph.1 K2) (2*j+2) from ⟨k8.mono (by omega),TW2.out,HTW.out.2,by rw [does_sp];exact HKW.out.s2⟩)
               clear k8 CDY
               go_wp2_with fail
               go_meet
               exact ⟨_,_,HM.out⟩
         case rest=>
          obtain ⟨K',K2',HKZ⟩:=hcut
          have CA:=hid (kp_alike A HKZ.out.kp HKZ.out.tw HKZ.out.s1 HKZ.out.s2 a1 a2 a3 n1 n2 n3 c1 c2 c3 (HC.out.2.1.below (by omega) HKZ.out.kp.bel) HF.out.2.2.1 n16)
          have RB:=hid (show wc.rangeAt cb 0 [.int .i64 3,.slice a1 n1 c1,.slice a2 n2 c2,.slice a3 n3 c3] from range_of ((HKZ.out.kp.bel.block _ lCB).trans HC.out.1))
          have HZ:=hid (And.intro HKZ.out.tw (And.intro HKZ.out.s1 HKZ.out.s2))
          clear HKZ
          go_wp2_with (with_reducible (show wpList _ _ _ (⟨_,.load 32 _,_,_,_,none⟩ :: _) _ _);go_must (refine wpList_load_mid rfl 32 _ rfl cb 0 rfl _ _ RB.out Tryz.underlying32 rfl (by kernel_rfl) ?_))
          refine CA.out.mono ?_
          rintro e w9 ⟨rfl,k9⟩
          have HN:=hid (show KW Rep WB w9 x y T (F0 L) K' K2' (2*(j+1)) from ⟨k9.mono (by omega),HZ.out.1,HZ.out.2.1,HZ.out.2.2⟩)
          clear k9 CA RB HZ
          go_wp2_with fail
          first
           | exact ⟨⟨j+1,K',K2',by have:=h6m.out;omega,by have:=h6m.out;omega,by go_num,HN.out⟩,by simp [intOf];omega⟩
           | (
            go_roundw
            case rel=>first | exact ⟨j+1,K',K2',by have:=h6m.out;omega,by have:=h6m.out;omega,by go_num,HN.out⟩ | ((repeat apply Exists.intro);exact ⟨⟨j+1,K',K2',by have:=h6m.out;omega,by have:=h6m.out;omega,by go_num,HN.out⟩,rfl⟩)
            case measure=>simp [intOf];omega)
  ·by_cases hT:j < mA
   ·have h1:(j:Int) < (mA:Int):=by omega
    have h2:(80:Int)<=(j:Int):=by omega
    have HKW:=hid HK.out
    clear h6 HK
    go_wp2_with fail
    go_ret
    exact ⟨rfl,HF.out.2.2.2.trans (HKW.out.kp.bel.mono HF.out.2.2.2.size)⟩
   ·obtain rfl:j=mA:=by omega
    have HKW:=hid HK.out
    clear h6 HK hT
    go_wp2_with fail
    go_ret
    exact ⟨rfl,HF.out.2.2.2.trans (HKW.out.kp.bel.mono HF.out.2.2.2.size)⟩
end
end Go.Proofs.YteejjgbeknnmeaaGreatDoor
