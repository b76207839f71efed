import Derived.Test.YteejjgbeknnmeaaGreatDoorJ06
set_option maxRecDepth 100000
set_option maxHeartbeats 20000000
namespace Go.Proofs.YteejjgbeknnmeaaGreatDoor
open Go.RowKit
theorem config_true (PT PP PL:List Int) (aT aP aL:Option Addr) (mT cT mP cP mL cL:Nat) (w:World) (iT:Inl w 1 (.slice aT mT cT) (PT.map lnI)) (iP:Inl w 1 (.slice aP mP cP) (PP.map lnI)) (iL:Inl w 1 (.slice aL mL cL) (PL.map lnI)) (lT:PT.length=mT) (lP:PP.length=mP) (lL:PL.length=mL) (bT:mT<=100000000000000) (bP:mP<=100000000000000) (bL:mL<=100000000000000)
  (rT:∀ z∈PT,-9223372036854775808<=z/\z<=9223372036854775807) (rP:∀ z∈PP,-9223372036854775808<=z/\z<=9223372036854775807) (rL:∀ z∈PL,-9223372036854775808<=z/\z<=9223372036854775807) :
  Calls Tryz.prog 26 #[.agg #[.slice aT mT cT,.slice aP mP cP,.slice aL mL cL],.bool true] w fun e w'=>CfgOut true w e w':=by
 obtain ⟨i0,hi0,hz0,hz1,hz2⟩:=info_parts Tryz.infoN34
 obtain ⟨i1,hi1,hy0,hy1,hy2⟩:=info_parts Tryz.infoK55
 obtain ⟨i2,hi2,hx0,hx1,hx2⟩:=info_parts Tryz.infoK67
 obtain ⟨W2,hW2⟩:∃ W2,(w.alloc (.cells #[.slice aT mT cT,.slice aP mP cP,.slice aL mL cL] 58)).alloc (.cells #[.int .i64 0,.slice none 0 0,.slice none 0 0,.slice none 0 0] 32)=W2:=⟨_,rfl⟩
 have hP:W2.heap[w.heap.size]? = some (.cells #[.slice aT mT cT,.slice aP mP cP,.slice aL mL cL] 58 (0,0)):=by rw [<- hW2];exact al2 w _ _
 have z2:W2.heap.size=w.heap.size+1+1:=by rw [<- hW2];simp
 have hZ:W2.heap[w.heap.size+1]? = some (.cells #[.int .i64 0,.slice none 0 0,.slice none 0 0,.slice none 0 0] 32 (0,0)):=by
  have:=heap_alloc_new (w.alloc (.cells #[.slice aT mT cT,.slice aP mP cP,.slice aL mL cL] 58)) (.cells #[.int .i64 0,.slice none 0 0,.slice none 0 0,.slice none 0 0] 32)
  rw [size_alloc] at this
  rw [<- hW2];exact this
 have bW:Below w.heap.size w W2:=by rw [<- hW2];exact ((Below.refl _ w).alloc (Nat.le_refl _) _).alloc (by simp) _
 have HI:=hid (And.intro (iT.below (by omega) bW) (And.intro (iP.below (by omega) bW) (iL.below (by omega) bW)))
 have HL:=hid (And.intro lT (And.intro lP lL))
 have HR:=hid (And.intro rT (And.intro rP rL))
 have HP:=hid (And.intro hP (And.intro hZ (And.intro z2 bW)))
 have HW2:=hid hW2
 have C0:=hid (show CfgAt W2 (W2.alloc (.cells #[.int .i64 3,.slice none 0 0,.slice none 0 0,.slice none 0 0] 32)) (w.heap.size+1+1) 3 [] [] [] (.slice none 0 0) (.slice none 0 0) (.slice none 0 0) from z2 ▸ cfg_first 3 (Below.refl _ W2))
 clear hP z2 hZ bW iT iP iL lT lP lL rT rP rL hW2
 go_enter Tryz.func26,Tryz.ntmps26
 go_upto_block 0 with fail
 go_cut [6] from 18 to 47 (fun v wx=>∃ (k:Nat) (a:Option Addr) (c:Nat) (T:List (Int×Int)),Hid (CfgAt W2 wx (w.heap.size+1+1) 3 T [] [] (.slice a k c) (.slice none 0 0) (.slice none 0 0)/\T.length=k/\(∀ p∈T,okT 3 p)/\k<=6))
 case first=>
  go_wp2_with fail
  rw [HW2.out]
  go_loopw [6] (fun i wr=>∃ (k:Nat) (a:Option Addr) (c:Nat) (T:List (Int×Int)),k<=6/\k<=mT/\i=.int .i64 k/\Hid (CfgAt W2 wr (w.heap.size+1+1) 3 T [] [] (.slice a k c) (.slice none 0 0) (.slice none 0 0)/\T.length=k/\∀ p∈T,okT 3 p)) (fun i _=>6-(intOf i).toNat)
  case atStart=>exact ⟨0,none,0,[],Nat.zero_le _,Nat.zero_le _,rfl,C0.out,rfl,by simp⟩
  case round=>
   clear C0
   obtain ⟨k,a,c,T,hk,hkm,rfl,HC⟩:=hrel
   have lc:=HC.out.1.lt
   have k1:=(HC.out.1.cell 1).trans (show _=some (Value.slice a k c) from rfl)
   have v0:=(plan_cell HC.out.1.bel HP.out.1 (by have:=HP.out.2.2.1;omega) 0).trans (show _=some (Value.slice aT mT cT) from rfl)
   by_cases h6:k < 6/\k < mT
   ·have hk6:(k:Int) < 6:=by omega
    have hkT:(k:Int) < (mT:Int):=by omega
    obtain ⟨z,hz⟩:∃ z,PT[k]? = some z:=⟨_,List.getElem?_eq_getElem (by have:=HL.out.1;omega)⟩
    have zb:=HR.out.1 z (List.mem_of_getElem? hz)
    obtain ⟨bl,ol,ea,cw⟩:=word_at (HI.out.1.below (by omega) HC.out.1.bel) hz
    subst ea
    have lbl:bl < W2.heap.size:=block_lt_of_cell (word_at2 HI.out.1 hz)
    have nb:bl≠(w.heap.size+1+1):=by have:=HP.out.2.2.1;omega
    have nw:w.heap.size≠(w.heap.size+1+1):=by omega
    have lw:w.heap.size < wr.heap.size:=by omega
    have lb:bl < wr.heap.size:=block_lt_of_cell cw
    have PA:=hid (fun w=>pickK_any z 3 w zb.1 zb.2 (by omega) (by omega))
    have PB:=hid (fun w=>pickK_any (z.tdiv 3) 2 w (tdiv_in (by omega) zb.1 zb.2).1 (tdiv_in (by omega) zb.1 zb.2).2 (by omega) (by omega))
    have wz3:IntKind.i64.wrap (z.tdiv 3)=z.tdiv 3:=wrap_in (tdiv_in (by omega) zb.1 zb.2).1 (tdiv_in (by omega) zb.1 zb.2).2
    obtain ⟨ps,hps⟩:∃ q,pickI z 3=q:=⟨_,rfl⟩
    obtain ⟨pr,hpr⟩:∃ q,pickI (z.tdiv 3) 2=q:=⟨_,rfl⟩
    have rs:=pickI_in z (n:=3) (by omega)
    have rr:=pickI_in (z.tdiv 3) (n:=2) (by omega)
    rw [hps] at PA rs
    rw [hpr] at PB rr
    have h6m:=hid h6
    clear hz zb hps hpr h6
    go_wp2_with fail
    refine wp_region_held_drew (S:=(fun w'=>w'.cell? ⟨w.heap.size,0,none⟩=some (.slice (some ⟨bl,ol,none⟩) mT cT)/\w'.cell? ⟨bl,ol+k,none⟩=some (.int .i64 z))) (by kernel_rfl) ?_ (fun hHeld=>?_)
    ·((try dsimp only);first | (refine ⟨?_,?_⟩ <;> assumption) | (refine ⟨?_,?_⟩ <;> (rw [World.cell?_of_block (Below.heap_setCell _ _ _ _ (by dsimp only;omega))];assumption)) | go_keep)
    refine wpAnyH_take (i:=0) (v:=?vt1) rfl (by kernel_rfl) (by kernel_rfl) (by kernel_rfl) (fun _ _ _ h=>h) (Or.inl ⟨by rfl,?yt1⟩) (by assumption) ?rt1
    case yt1=>(intro wx hSw;(try dsimp only at hSw);go_simp;try with_reducible rfl)
    try simp only [List.getElem_toArray,List.getElem_cons_zero,Act.put,List.setIfInBounds_toArray,List.set_cons_zero,List.set_cons_succ]
    refine wpAnyH_take (i:=2) (v:=?vt2) rfl (by kernel_rfl) (by kernel_rfl) (by kernel_rfl) (fun _ _ _ h=>h) (Or.inl ⟨by rfl,?yt2⟩) (by assumption) ?rt2
    case yt2=>(intro wx hSw;(try dsimp only at hSw);go_simp;try with_reducible rfl)
    try simp only [List.getElem_toArray,List.getElem_cons_zero,List.getElem_cons_succ,Act.put,List.setIfInBounds_toArray,List.set_cons_zero,List.set_cons_succ]
    refine wpAnyH_take (i:=3) (v:=?vt3) rfl (by kernel_rfl) (by kernel_rfl) (by kernel_rfl) (fun _ _ _ h=>h) (Or.inl ⟨by rfl,?yt3⟩) (by assumption) ?rt3
    case yt3=>(intro wx hSw;(try dsimp only at hSw);go_simp;try with_reducible rfl)
    try simp only [List.getElem_toArray,List.getElem_cons_zero,List.getElem_cons_succ,Act.put,List.setIfInBounds_toArray,List.set_cons_zero,List.set_cons_succ]
    refine wpAnyH_take (i:=4) (v:=?vt4) rfl (by kernel_rfl) (by kernel_rfl) (by kernel_rfl) (fun _ _ _ h=>h) (Or.inl ⟨by rfl,?yt4⟩) (by assumption) ?rt4
    case yt4=>(intro wx hSw;(try dsimp only at hSw);go_simp;try with_reducible rfl)
    try simp only [List.getElem_toArray,List.getElem_cons_zero,List.getElem_cons_succ,Act.put,List.setIfInBounds_toArray,List.set_cons_zero,List.set_cons_succ]
    refine wpAnyH_take (i:=5) (v:=?vt5) rfl (by kernel_rfl) (by kernel_rfl) (by kernel_rfl) (fun _ _ _ h=>h) (Or.inl ⟨by rfl,?yt5⟩) (by assumption) ?rt5
    case yt5=>(intro wx hSw;(try dsimp only at hSw);go_simp;try with_reducible rfl)
    try simp only [List.getElem_toArray,List.getElem_cons_zero,List.getElem_cons_succ,Act.put,List.setIfInBounds_toArray,List.set_cons_zero,List.set_cons_succ]
    refine wpAnyH_take (i:=6) (v:=?vt6) rfl (by kernel_rfl) (by kernel_rfl) (by kernel_rfl) (fun _ _ _ h=>h) (Or.inl ⟨by rfl,?yt6⟩) (by assumption) ?rt6
    case yt6=>(intro wx hSw;(try dsimp only at hSw);go_simp;try with_reducible rfl)
    try simp only [List.getElem_toArray,List.getElem_cons_zero,List.getElem_cons_succ,Act.put,List.setIfInBounds_toArray,List.set_cons_zero,List.set_cons_succ]
    refine wpAnyH_take (i:=8) (v:=?vt7) rfl (by kernel_rfl) (by kernel_rfl) (by kernel_rfl) (fun _ _ _ h=>h) (Or.inl ⟨by rfl,?yt7⟩) (by assumption) ?rt7
    case yt7=>(intro wx hSw;(try dsimp only at hSw);go_simp;try with_reducible rfl)
    try simp only [List.getElem_toArray,List.getElem_cons_zero,List.getElem_cons_succ,Act.put,List.setIfInBounds_toArray,List.set_cons_zero,List.set_cons_succ]
    refine wpAnyH_take (i:=9) (v:=?vt8) rfl (by kernel_rfl) (by kernel_rfl) (by kernel_rfl) (fun _ _ _ h=>h) (Or.inl ⟨by rfl,?yt8⟩) (by assumption) ?rt8
    case yt8=>(intro wx hSw;(try dsimp only at hSw);go_simp;try with_reducible rfl)
    try simp only [List.getElem_toArray,List.getElem_cons_zero,List.getElem_cons_succ,Act.put,List.setIfInBounds_toArray,List.set_cons_zero,List.set_cons_succ]
    refine wpAnyH_take (i:=10) (v:=?vt9) rfl (by kernel_rfl) (by kernel_rfl) (by kernel_rfl) (fun _ _ _ h=>h) (Or.inl ⟨by rfl,?yt9⟩) (by assumption) ?rt9
    case yt9=>(intro wx hSw;(try dsimp only at hSw);go_simp;try with_reducible rfl)
    try simp only [List.getElem_toArray,List.getElem_cons_zero,List.getElem_cons_succ,Act.put,List.setIfInBounds_toArray,List.set_cons_zero,List.set_cons_succ]
    refine wpAnyH_take (i:=11) (v:=?vt10) rfl (by kernel_rfl) (by kernel_rfl) (by kernel_rfl) (fun _ _ _ h=>h) (Or.inl ⟨by rfl,?yt10⟩) (by assumption) ?rt10
    case yt10=>(intro wx hSw;(try dsimp only at hSw);go_simp;try with_reducible rfl)
    try simp only [List.getElem_toArray,List.getElem_cons_zero,List.getElem_cons_succ,Act.put,List.setIfInBounds_toArray,List.set_cons_zero,List.set_cons_succ]
    refine wpAnyH_take (i:=12) (v:=?vt11) rfl (by kernel_rfl) (by kernel_rfl) (by kernel_rfl) (fun _ _ _ h=>h) (Or.inl ⟨by rfl,?yt11⟩) (by assumption) ?rt11
    case yt11=>(intro wx hSw;(try dsimp only at hSw);go_simp;try with_reducible rfl)
    try simp only [List.getElem_toArray,List.getElem_cons_zero,List.getElem_cons_succ,Act.put,List.setIfInBounds_toArray,List.set_cons_zero,List.set_cons_succ]
    refine wpAnyH_take (i:=13) (v:=?vt12) rfl (by kernel_rfl) (by kernel_rfl) (by kernel_rfl) (fun _ _ _ h=>h) (Or.inl ⟨by rfl,?yt12⟩) (by assumption) ?rt12
    case yt12=>(intro wx hSw;(try dsimp only at hSw);go_simp;try with_reducible rfl)
    try simp only [List.getElem_toArray,List.getElem_cons_zero,List.getElem_cons_succ,Act.put,List.setIfInBounds_toArray,List.set_cons_zero,List.set_cons_succ]
    refine wpAnyH_ready (rs:=[1,7]) (by kernel_rfl) (by simp) (AllReadyH.cons rfl (fun K hK=>?tb13w1) (AllReadyH.cons rfl (fun K hK=>?tb13w7) AllReadyH.nil))
    case' tb13w1=>
     go_simp
     refine hK.out _ _ ?_ (fun hHeld14=>?_)
     ·((try dsimp only);first | (refine ⟨?_,?_⟩ <;> assumption) | (refine ⟨?_,?_⟩ <;> (rw [World.cell?_of_block (Below.heap_setCell _ _ _ _ (by dsimp only;omega))];assumption)) | go_keep)
     clear hK K hHeld
     try simp only [List.getElem_toArray,List.getElem_cons_zero,List.getElem_cons_succ,Act.put,List.setIfInBounds_toArray,List.set_cons_zero,List.set_cons_succ]
     refine wpAnyH_ready (rs:=[7]) (by kernel_rfl) (by simp) (AllReadyH.cons rfl (fun K hK=>?_) AllReadyH.nil)
     (go_simp;go_at_call 16;refine (PA.out _).mono ?_;rintro e w1 ⟨rfl,rfl⟩)
     refine hK.out _ _ ?_ (fun hHeld16=>?_)
     ·((try dsimp only);first | (refine ⟨?_,?_⟩ <;> assumption) | (refine ⟨?_,?_⟩ <;> (rw [World.cell?_of_block (Below.heap_setCell _ _ _ _ (by dsimp only;omega))];assumption)) | go_keep)
     clear hK K hHeld14
     try simp only [List.getElem_toArray,List.getElem_cons_zero,List.getElem_cons_succ,Act.put,List.setIfInBounds_toArray,List.set_cons_zero,List.set_cons_succ]
     refine wpAnyH_ready (rs:=[14]) (by kernel_rfl) (by simp) (AllReadyH.cons rfl (fun K hK=>?_) AllReadyH.nil)
     (go_simp;go_at_call 16;refine (PB.out _).mono ?_;rintro e w1 ⟨rfl,rfl⟩)
     refine hK.out _ _ ?_ (fun hHeld18=>?_)
     ·((try dsimp only);first | (refine ⟨?_,?_⟩ <;> assumption) | (refine ⟨?_,?_⟩ <;> (rw [World.cell?_of_block (Below.heap_setCell _ _ _ _ (by dsimp only;omega))];assumption)) | go_keep)
     clear hK K hHeld16
     try simp only [List.getElem_toArray,List.getElem_cons_zero,List.getElem_cons_succ,Act.put,List.setIfInBounds_toArray,List.set_cons_zero,List.set_cons_succ]
     refine wpAnyH_take (i:=15) (v:=?vt19) rfl (by kernel_rfl) (by kernel_rfl) (by kernel_rfl) (fun _ _ _ h=>h) (Or.inl ⟨by rfl,?yt19⟩) (by assumption) ?rt19
     case yt19=>(intro wx hSw;(try dsimp only at hSw);go_simp;try with_reducible rfl)
     try simp only [List.getElem_toArray,List.getElem_cons_zero,List.getElem_cons_succ,Act.put,List.setIfInBounds_toArray,List.set_cons_zero,List.set_cons_succ]
     refine wpAnyH_ready (rs:=[16]) (by kernel_rfl) (by simp) (AllReadyH.cons rfl (fun K hK=>?_) AllReadyH.nil)
     go_simp
     refine hK.out _ _ ?_ (fun hHeld21=>?_)
     ·((try dsimp only);first | (refine ⟨?_,?_⟩ <;> assumption) | (refine ⟨?_,?_⟩ <;> (rw [World.cell?_of_block (Below.heap_setCell _ _ _ _ (by dsimp only;omega))];assumption)) | go_keep)
     clear hK K hHeld18
     try simp only [List.getElem_toArray,List.getElem_cons_zero,List.getElem_cons_succ,Act.put,List.setIfInBounds_toArray,List.set_cons_zero,List.set_cons_succ]
     refine wpAnyH_ready (rs:=[17]) (by kernel_rfl) (by simp) (AllReadyH.cons rfl (fun K hK=>?_) AllReadyH.nil)
     (refine step_append_n _ (by rfl) _ _ 28 (by rfl) 34 i0 _ 2 16 Tryz.underlying28 hi0 hz0 hz1 hz2 rfl (by decide) (.slice a k c) (T.map tRow) (by rfl) (HC.out.1.below (((Below.refl _ wr).alloc (Nat.le_refl _) _).drew)).sT (some ⟨wr.heap.size,0,none⟩) 1 1 [tRow (ps,pr)] (by rfl) (inl_row (tRow (ps,pr)) 34 rfl (t_oneK _)).drew (k+1) (by rw [List.length_map,HC.out.2.1];rfl) (by unfold maxLen;omega) (by omega) ?_;intro a3 c3 w3 G3;obtain ⟨u1,u2,H3⟩:=HC.out.1.addT (((Fr.refl (fun _=>False) wr).alloc _).drew) G3;have q1:=(World.cell?_of_block (G3.old (g:=w.heap.size) (by simp;omega) (fun e=>(by have:=(HC.out.1.nT _ e).1;have:=HP.out.2.2.1;omega)))).trans ((World.cell?_of_block (Below.heap_alloc wr _ _ lw)).trans v0);have q2:=(World.cell?_of_block (G3.old (g:=bl) (by simp;omega) (fun e=>(by have:=(HC.out.1.nT _ e).1;omega)))).trans ((World.cell?_of_block (Below.heap_alloc wr _ _ lb)).trans cw);replace H3:=hid H3;clear G3)
     refine hK.out _ _ ?_ (fun hHeld23=>?_)
     ·((try dsimp only);first | (refine ⟨?_,?_⟩ <;> assumption) | (refine ⟨?_,?_⟩ <;> (rw [World.cell?_of_block (Below.heap_setCell _ _ _ _ (by dsimp only;omega))];assumption)) | go_keep)
     clear hK K hHeld21
     try simp only [List.getElem_toArray,List.getElem_cons_zero,List.getElem_cons_succ,Act.put,List.setIfInBounds_toArray,List.set_cons_zero,List.set_cons_succ]
     refine wpAnyH_take (i:=18) (v:=?vt24) rfl (by kernel_rfl) (by kernel_rfl) (by kernel_rfl) (fun _ _ _ h=>h) (Or.inl ⟨by rfl,?yt24⟩) (by assumption) ?rt24
     case yt24=>(intro wx hSw;(try dsimp only at hSw);go_simp;try with_reducible rfl)
     try simp only [List.getElem_toArray,List.getElem_cons_zero,List.getElem_cons_succ,Act.put,List.setIfInBounds_toArray,List.set_cons_zero,List.set_cons_succ]
     refine wpAnyH_ready (rs:=[19]) (by kernel_rfl) (by simp) (AllReadyH.cons rfl (fun K hK=>?_) AllReadyH.nil)
     go_simp
     refine hK.out _ _ ?_ (fun hHeld26=>?_)
     ·((try dsimp only);first | (refine ⟨?_,?_⟩ <;> assumption) | (refine ⟨?_,?_⟩ <;> (rw [World.cell?_of_block (Below.heap_setCell _ _ _ _ (by dsimp only;omega))];assumption)) | go_keep)
     clear hK K hHeld23
     try simp only [List.getElem_toArray,List.getElem_cons_zero,List.getElem_cons_succ,Act.put,List.setIfInBounds_toArray,List.set_cons_zero,List.set_cons_succ]
     refine wpAnyH_done (by kernel_rfl) ?_ _
    case' tb13w7=>
     (go_simp;go_at_call 16;refine (PA.out _).mono ?_;rintro e w1 ⟨rfl,rfl⟩)
     refine hK.out _ _ ?_ (fun hHeld27=>?_)
     ·((try dsimp only);first | (refine ⟨?_,?_⟩ <;> assumption) | (refine ⟨?_,?_⟩ <;> (rw [World.cell?_of_block (Below.heap_setCell _ _ _ _ (by dsimp only;omega))];assumption)) | go_keep)
     clear hK K hHeld
     try simp only [List.getElem_toArray,List.getElem_cons_zero,List.getElem_cons_succ,Act.put,List.setIfInBounds_toArray,List.set_cons_zero,List.set_cons_succ]
     refine wpAnyH_ready (rs:=[1,14]) (by kernel_rfl) (by simp) (AllReadyH.cons rfl (fun K hK=>?tb28w1) (AllReadyH.cons rfl (fun K hK=>?tb28w14) AllReadyH.nil))
     case' tb28w1=>
      go_simp
      refine hK.out _ _ ?_ (fun hHeld29=>?_)
      ·((try dsimp only);first | (refine ⟨?_,?_⟩ <;> assumption) | (refine ⟨?_,?_⟩ <;> (rw [World.cell?_of_block (Below.heap_setCell _ _ _ _ (by dsimp only;omega))];assumption)) | go_keep)
      clear hK K hHeld27
      try simp only [List.getElem_toArray,List.getElem_cons_zero,List.getElem_cons_succ,Act.put,List.setIfInBounds_toArray,List.set_cons_zero,List.set_cons_succ]
      refine wpAnyH_ready (rs:=[14]) (by kernel_rfl) (by simp) (AllReadyH.cons rfl (fun K hK=>?_) AllReadyH.nil)
      (go_simp;go_at_call 16;refine (PB.out _).mono ?_;rintro e w1 ⟨rfl,rfl⟩)
      refine hK.out _ _ ?_ (fun hHeld31=>?_)
      ·((try dsimp only);first | (refine ⟨?_,?_⟩ <;> assumption) | (refine ⟨?_,?_⟩ <;> (rw [World.cell?_of_block (Below.heap_setCell _ _ _ _ (by dsimp only;omega))];assumption)) | go_keep)
      clear hK K hHeld29
      try simp only [List.getElem_toArray,List.getElem_cons_zero,List.getElem_cons_succ,Act.put,List.setIfInBounds_toArray,List.set_cons_zero,List.set_cons_succ]
      refine wpAnyH_take (i:=15) (v:=?vt32) rfl (by kernel_rfl) (by kernel_rfl) (by kernel_rfl) (fun _ _ _ h=>h) (Or.inl ⟨by rfl,?yt32⟩) (by assumption) ?rt32
      case yt32=>(intro wx hSw;(try dsimp only at hSw);go_simp;try with_reducible rfl)
      try simp only [List.getElem_toArray,List.getElem_cons_zero,List.getElem_cons_succ,Act.put,List.setIfInBounds_toArray,List.set_cons_zero,List.set_cons_succ]
      refine wpAnyH_ready (rs:=[16]) (by kernel_rfl) (by simp) (AllReadyH.cons rfl (fun K hK=>?_) AllReadyH.nil)
      go_simp
      refine hK.out _ _ ?_ (fun hHeld34=>?_)
      ·((try dsimp only);first | (refine ⟨?_,?_⟩ <;> assumption) | (refine ⟨?_,?_⟩ <;> (rw [World.cell?_of_block (Below.heap_setCell _ _ _ _ (by dsimp only;omega))];assumption)) | go_keep)
      clear hK K hHeld31
      try simp only [List.getElem_toArray,List.getElem_cons_zero,List.getElem_cons_succ,Act.put,List.setIfInBounds_toArray,List.set_cons_zero,List.set_cons_succ]
      refine wpAnyH_ready (rs:=[17]) (by kernel_rfl) (by simp) (AllReadyH.cons rfl (fun K hK=>?_) AllReadyH.nil)
      (refine step_append_n _ (by rfl) _ _ 28 (by rfl) 34 i0 _ 2 16 Tryz.underlying28 hi0 hz0 hz1 hz2 rfl (by decide) (.slice a k c) (T.map tRow) (by rfl) (HC.out.1.below (((Below.refl _ wr).alloc (Nat.le_refl _) _).drew)).sT (some ⟨wr.heap.size,0,none⟩) 1 1 [tRow (ps,pr)] (by rfl) (inl_row (tRow (ps,pr)) 34 rfl (t_oneK _)).drew (k+1) (by rw [List.length_map,HC.out.2.1];rfl) (by unfold maxLen;omega) (by omega) ?_;intro a3 c3 w3 G3;obtain ⟨u1,u2,H3⟩:=HC.out.1.addT (((Fr.refl (fun _=>False) wr).alloc _).drew) G3;have q1:=(World.cell?_of_block (G3.old (g:=w.heap.size) (by simp;omega) (fun e=>(by have:=(HC.out.1.nT _ e).1;have:=HP.out.2.2.1;omega)))).trans ((World.cell?_of_block (Below.heap_alloc wr _ _ lw)).trans v0);have q2:=(World.cell?_of_block (G3.old (g:=bl) (by simp;omega) (fun e=>(by have:=(HC.out.1.nT _ e).1;omega)))).trans ((World.cell?_of_block (Below.heap_alloc wr _ _ lb)).trans cw);replace H3:=hid H3;clear G3)
      refine hK.out _ _ ?_ (fun hHeld36=>?_)
      ·((try dsimp only);first | (refine ⟨?_,?_⟩ <;> assumption) | (refine ⟨?_,?_⟩ <;> (rw [World.cell?_of_block (Below.heap_setCell _ _ _ _ (by dsimp only;omega))];assumption)) | go_keep)
      clear hK K hHeld34
      try simp only [List.getElem_toArray,List.getElem_cons_zero,List.getElem_cons_succ,Act.put,List.setIfInBounds_toArray,List.set_cons_zero,List.set_cons_succ]
      refine wpAnyH_take (i:=18) (v:=?vt37) rfl (by kernel_rfl) (by kernel_rfl) (by kernel_rfl) (fun _ _ _ h=>h) (Or.inl ⟨by rfl,?yt37⟩) (by assumption) ?rt37
      case yt37=>(intro wx hSw;(try dsimp only at hSw);go_simp;try with_reducible rfl)
      try simp only [List.getElem_toArray,List.getElem_cons_zero,List.getElem_cons_succ,Act.put,List.setIfInBounds_toArray,List.set_cons_zero,List.set_cons_succ]
      refine wpAnyH_ready (rs:=[19]) (by kernel_rfl) (by simp) (AllReadyH.cons rfl (fun K hK=>?_) AllReadyH.nil)
      go_simp
      refine hK.out _ _ ?_ (fun hHeld39=>?_)
      ·((try dsimp only);first | (refine ⟨?_,?_⟩ <;> assumption) | (refine ⟨?_,?_⟩ <;> (rw [World.cell?_of_block (Below.heap_setCell _ _ _ _ (by dsimp only;omega))];assumption)) | go_keep)
      clear hK K hHeld36
      try simp only [List.getElem_toArray,List.getElem_cons_zero,List.getElem_cons_succ,Act.put,List.setIfInBounds_toArray,List.set_cons_zero,List.set_cons_succ]
      refine wpAnyH_done (by kernel_rfl) ?_ _
     case' tb28w14=>
      (go_simp;go_at_call 16;refine (PB.out _).mono ?_;rintro e w1 ⟨rfl,rfl⟩)
      refine hK.out _ _ ?_ (fun hHeld40=>?_)
      ·((try dsimp only);first | (refine ⟨?_,?_⟩ <;> assumption) | (refine ⟨?_,?_⟩ <;> (rw [World.cell?_of_block (Below.heap_setCell _ _ _ _ (by dsimp only;omega))];assumption)) | go_keep)
      clear hK K hHeld27
      try simp only [List.getElem_toArray,List.getElem_cons_zero,List.getElem_cons_succ,Act.put,List.setIfInBounds_toArray,List.set_cons_zero,List.set_cons_succ]
      refine wpAnyH_take (i:=15) (v:=?vt41) rfl (by kernel_rfl) (by kernel_rfl) (by kernel_rfl) (fun _ _ _ h=>h) (Or.inl ⟨by rfl,?yt41⟩) (by assumption) ?rt41
      case yt41=>(intro wx hSw;(try dsimp only at hSw);go_simp;try with_reducible rfl)
      try simp only [List.getElem_toArray,List.getElem_cons_zero,List.getElem_cons_succ,Act.put,List.setIfInBounds_toArray,List.set_cons_zero,List.set_cons_succ]
      refine wpAnyH_ready (rs:=[1,16]) (by kernel_rfl) (by simp) (AllReadyH.cons rfl (fun K hK=>?tb42w1) (AllReadyH.cons rfl (fun K hK=>?tb42w16) AllReadyH.nil))
      case' tb42w1=>
       go_simp
       refine hK.out _ _ ?_ (fun hHeld43=>?_)
       ·((try dsimp only);first | (refine ⟨?_,?_⟩ <;> assumption) | (refine ⟨?_,?_⟩ <;> (rw [World.cell?_of_block (Below.heap_setCell _ _ _ _ (by dsimp only;omega))];assumption)) | go_keep)
       clear hK K hHeld40
       try simp only [List.getElem_toArray,List.getElem_cons_zero,List.getElem_cons_succ,Act.put,List.setIfInBounds_toArray,List.set_cons_zero,List.set_cons_succ]
       refine wpAnyH_ready (rs:=[16]) (by kernel_rfl) (by simp) (AllReadyH.cons rfl (fun K hK=>?_) AllReadyH.nil)
       go_simp
       refine hK.out _ _ ?_ (fun hHeld45=>?_)
       ·((try dsimp only);first | (refine ⟨?_,?_⟩ <;> assumption) | (refine ⟨?_,?_⟩ <;> (rw [World.cell?_of_block (Below.heap_setCell _ _ _ _ (by dsimp only;omega))];assumption)) | go_keep)
       clear hK K hHeld43
       try simp only [List.getElem_toArray,List.getElem_cons_zero,List.getElem_cons_succ,Act.put,List.setIfInBounds_toArray,List.set_cons_zero,List.set_cons_succ]
       refine wpAnyH_ready (rs:=[17]) (by kernel_rfl) (by simp) (AllReadyH.cons rfl (fun K hK=>?_) AllReadyH.nil)
       (refine step_append_n _ (by rfl) _ _ 28 (by rfl) 34 i0 _ 2 16 Tryz.underlying28 hi0 hz0 hz1 hz2 rfl (by decide) (.slice a k c) (T.map tRow) (by rfl) (HC.out.1.below (((Below.refl _ wr).alloc (Nat.le_refl _) _).drew)).sT (some ⟨wr.heap.size,0,none⟩) 1 1 [tRow (ps,pr)] (by rfl) (inl_row (tRow (ps,pr)) 34 rfl (t_oneK _)).drew (k+1) (by rw [List.length_map,HC.out.2.1];rfl) (by unfold maxLen;omega) (by omega) ?_;intro a3 c3 w3 G3;obtain ⟨u1,u2,H3⟩:=HC.out.1.addT (((Fr.refl (fun _=>False) wr).alloc _).drew) G3;have q1:=(World.cell?_of_block (G3.old (g:=w.heap.size) (by simp;omega) (fun e=>(by have:=(HC.out.1.nT _ e).1;have:=HP.out.2.2.1;omega)))).trans ((World.cell?_of_block (Below.heap_alloc wr _ _ lw)).trans v0);have q2:=(World.cell?_of_block (G3.old (g:=bl) (by simp;omega) (fun e=>(by have:=(HC.out.1.nT _ e).1;omega)))).trans ((World.cell?_of_block (Below.heap_alloc wr _ _ lb)).trans cw);replace H3:=hid H3;clear G3)
       refine hK.out _ _ ?_ (fun hHeld47=>?_)
       ·((try dsimp only);first | (refine ⟨?_,?_⟩ <;> assumption) | (refine ⟨?_,?_⟩ <;> (rw [World.cell?_of_block (Below.heap_setCell _ _ _ _ (by dsimp only;omega))];assumption)) | go_keep)
       clear hK K hHeld45
       try simp only [List.getElem_toArray,List.getElem_cons_zero,List.getElem_cons_succ,Act.put,List.setIfInBounds_toArray,List.set_cons_zero,List.set_cons_succ]
       refine wpAnyH_take (i:=18) (v:=?vt48) rfl (by kernel_rfl) (by kernel_rfl) (by kernel_rfl) (fun _ _ _ h=>h) (Or.inl ⟨by rfl,?yt48⟩) (by assumption) ?rt48
       case yt48=>(intro wx hSw;(try dsimp only at hSw);go_simp;try with_reducible rfl)
       try simp only [List.getElem_toArray,List.getElem_cons_zero,List.getElem_cons_succ,Act.put,List.setIfInBounds_toArray,List.set_cons_zero,List.set_cons_succ]
       refine wpAnyH_ready (rs:=[19]) (by kernel_rfl) (by simp) (AllReadyH.cons rfl (fun K hK=>?_) AllReadyH.nil)
       go_simp
       refine hK.out _ _ ?_ (fun hHeld50=>?_)
       ·((try dsimp only);first | (refine ⟨?_,?_⟩ <;> assumption) | (refine ⟨?_,?_⟩ <;> (rw [World.cell?_of_block (Below.heap_setCell _ _ _ _ (by dsimp only;omega))];assumption)) | go_keep)
       clear hK K hHeld47
       try simp only [List.getElem_toArray,List.getElem_cons_zero,List.getElem_cons_succ,Act.put,List.setIfInBounds_toArray,List.set_cons_zero,List.set_cons_succ]
       refine wpAnyH_done (by kernel_rfl) ?_ _
      case' tb42w16=>
       go_simp
       refine hK.out _ _ ?_ (fun hHeld51=>?_)
       ·((try dsimp only);first | (refine ⟨?_,?_⟩ <;> assumption) | (refine ⟨?_,?_⟩ <;> (rw [World.cell?_of_block (Below.heap_setCell _ _ _ _ (by dsimp only;omega))];assumption)) | go_keep)
       clear hK K hHeld40
       try simp only [List.getElem_toArray,List.getElem_cons_zero,List.getElem_cons_succ,Act.put,List.setIfInBounds_toArray,List.set_cons_zero,List.set_cons_succ]
       refine wpAnyH_ready (rs:=[1]) (by kernel_rfl) (by simp) (AllReadyH.cons rfl (fun K hK=>?_) AllReadyH.nil)
       go_simp
       refine hK.out _ _ ?_ (fun hHeld53=>?_)
       ·((try dsimp only);first | (refine ⟨?_,?_⟩ <;> assumption) | (refine ⟨?_,?_⟩ <;> (rw [World.cell?_of_block (Below.heap_setCell _ _ _ _ (by dsimp only;omega))];assumption)) | go_keep)
       clear hK K hHeld51
       try simp only [List.getElem_toArray,List.getElem_cons_zero,List.getElem_cons_succ,Act.put,List.setIfInBounds_toArray,List.set_cons_zero,List.set_cons_succ]
       refine wpAnyH_ready (rs:=[17]) (by kernel_rfl) (by simp) (AllReadyH.cons rfl (fun K hK=>?_) AllReadyH.nil)
       (refine step_append_n _ (by rfl) _ _ 28 (by rfl) 34 i0 _ 2 16 Tryz.underlying28 hi0 hz0 hz1 hz2 rfl (by decide) (.slice a k c) (T.map tRow) (by rfl) (HC.out.1.below (((Below.refl _ wr).alloc (Nat.le_refl _) _).drew)).sT (some ⟨wr.heap.size,0,none⟩) 1 1 [tRow (ps,pr)] (by rfl) (inl_row (tRow (ps,pr)) 34 rfl (t_oneK _)).drew (k+1) (by rw [List.length_map,HC.out.2.1];rfl) (by unfold maxLen;omega) (by omega) ?_;intro a3 c3 w3 G3;obtain ⟨u1,u2,H3⟩:=HC.out.1.addT (((Fr.refl (fun _=>False) wr).alloc _).drew) G3;have q1:=(World.cell?_of_block (G3.old (g:=w.heap.size) (by simp;omega) (fun e=>(by have:=(HC.out.1.nT _ e).1;have:=HP.out.2.2.1;omega)))).trans ((World.cell?_of_block (Below.heap_alloc wr _ _ lw)).trans v0);have q2:=(World.cell?_of_block (G3.old (g:=bl) (by simp;omega) (fun e=>(by have:=(HC.out.1.nT _ e).1;omega)))).trans ((World.cell?_of_block (Below.heap_alloc wr _ _ lb)).trans cw);replace H3:=hid H3;clear G3)
       refine hK.out _ _ ?_ (fun hHeld55=>?_)
       ·((try dsimp only);first | (refine ⟨?_,?_⟩ <;> assumption) | (refine ⟨?_,?_⟩ <;> (rw [World.cell?_of_block (Below.heap_setCell _ _ _ _ (by dsimp only;omega))];assumption)) | go_keep)
       clear hK K hHeld53
       try simp only [List.getElem_toArray,List.getElem_cons_zero,List.getElem_cons_succ,Act.put,List.setIfInBounds_toArray,List.set_cons_zero,List.set_cons_succ]
       refine wpAnyH_take (i:=18) (v:=?vt56) rfl (by kernel_rfl) (by kernel_rfl) (by kernel_rfl) (fun _ _ _ h=>h) (Or.inl ⟨by rfl,?yt56⟩) (by assumption) ?rt56
       case yt56=>(intro wx hSw;(try dsimp only at hSw);go_simp;try with_reducible rfl)
       try simp only [List.getElem_toArray,List.getElem_cons_zero,List.getElem_cons_succ,Act.put,List.setIfInBounds_toArray,List.set_cons_zero,List.set_cons_succ]
       refine wpAnyH_ready (rs:=[19]) (by kernel_rfl) (by simp) (AllReadyH.cons rfl (fun K hK=>?_) AllReadyH.nil)
       go_simp
       refine hK.out _ _ ?_ (fun hHeld58=>?_)
       ·((try dsimp only);first | (refine ⟨?_,?_⟩ <;> assumption) | (refine ⟨?_,?_⟩ <;> (rw [World.cell?_of_block (Below.heap_setCell _ _ _ _ (by dsimp only;omega))];assumption)) | go_keep)
       clear hK K hHeld55
       try simp only [List.getElem_toArray,List.getElem_cons_zero,List.getElem_cons_succ,Act.put,List.setIfInBounds_toArray,List.set_cons_zero,List.set_cons_succ]
       refine wpAnyH_done (by kernel_rfl) ?_ _
    all_goals (go_wp2_with fail)
    all_goals exact ⟨⟨k+1,a3,c3,T ++ [(ps,pr)],by have:=h6m.out;omega,by have:=h6m.out;omega,by go_num,H3.out,by rw [List.length_append,HC.out.2.1];rfl,fun p hp=>by
     rcases List.mem_append.1 hp with hp | hp
     ·exact HC.out.2.2 p hp
     ·rw [List.mem_singleton] at hp;subst hp;unfold okT;dsimp only;omega⟩,by simp [intOf];omega⟩
   ·by_cases hkT:k < mT
    ·have hkT':(k:Int) < (mT:Int):=by omega
     have hd6:(6:Int)<=(k:Int):=by omega
     have HM:=hid (show CfgAt W2 wr (w.heap.size+1+1) 3 T [] [] (.slice a k c) (.slice none 0 0) (.slice none 0 0)/\T.length=k/\(∀ p∈T,okT 3 p)/\k<=6 from ⟨HC.out.1,HC.out.2.1,HC.out.2.2,hk⟩)
     clear h6
     go_wp2_with fail
     go_meet
     exact ⟨k,a,c,T,HM.out⟩
    ·obtain rfl:k=mT:=by omega
     have HM:=hid (And.intro HC.out.1 (And.intro HC.out.2.1 (And.intro HC.out.2.2 hk)))
     clear h6 hkT
     go_wp2_with fail
     go_meet
     exact ⟨_,a,c,T,HM.out⟩
 case rest=>
  clear C0
  obtain ⟨k,a,c,T,HC⟩:=hcut
  have lc:=HC.out.1.lt
  have k1:=(HC.out.1.cell 1).trans (show _=some (Value.slice a k c) from rfl)
  have k6:=HC.out.2.2.2
  go_upto_block 2 with fail
  go_cut [7] from 51 to 61 (fun v wx=>∃ (k:Nat) (a:Option Addr) (c:Nat) (T:List (Int×Int)),Hid (CfgAt W2 wx (w.heap.size+1+1) 3 T [] [] (.slice a k c) (.slice none 0 0) (.slice none 0 0)/\T.length=k/\(∀ p∈T,okT 3 p)/\k<=6/\1<=k))
  case first=>
   go_wp2_with fail
   go_loopw [7] (fun i wr=>∃ (k:Nat) (a:Option Addr) (c:Nat) (T:List (Int×Int)),i=.int .i64 k/\k<=6/\Hid (CfgAt W2 wr (w.heap.size+1+1) 3 T [] [] (.slice a k c) (.slice none 0 0) (.slice none 0 0)/\T.length=k/\(∀ p∈T,okT 3 p))) (fun i _=>2-(intOf i).toNat)
   case atStart=>exact ⟨k,a,c,T,rfl,k6,HC.out.1,HC.out.2.1,HC.out.2.2.1⟩
   case round=>
    clear HC k1 lc k6
    obtain ⟨k,a,c,T,rfl,hk,HC⟩:=hrel
    have lc:=HC.out.1.lt
    have k1:=(HC.out.1.cell 1).trans (show _=some (Value.slice a k c) from rfl)
    by_cases h2:k < 2
    ·have hk2:(k:Int) < 2:=by omega
     go_wp2_with (at_builtin;go_must (refine wpList_append_n _ rfl _ _ 28 rfl 34 i0 _ 2 16 Tryz.underlying28 hi0 hz0 hz1 hz2 rfl (by decide) (.slice a k c) (T.map tRow) rfl (HC.out.1.below ((Below.refl _ wr).alloc (Nat.le_refl _) _)).sT (some ⟨wr.heap.size,0,none⟩) 1 1 [tRow ((k:Int),0)] rfl (inl_row (tRow ((k:Int),0)) 34 rfl (t_oneK _)) (k+1) (by rw [List.length_map,HC.out.2.1];rfl) (by unfold maxLen;omega) (by omega) ?_);intro a3 c3 w3 G3;obtain ⟨u1,u2,H3⟩:=HC.out.1.addT ((Fr.refl (fun _=>False) wr).alloc _) G3;replace H3:=hid H3;clear G3)
     exact ⟨⟨k+1,a3,c3,T ++ [((k:Int),0)],by go_num,by omega,H3.out,by rw [List.length_append,HC.out.2.1];rfl,fun p hp=>by
      rcases List.mem_append.1 hp with hp | hp
      ·exact HC.out.2.2 p hp
      ·rw [List.mem_singleton] at hp;subst hp;unfold okT;dsimp only;omega⟩,by simp [intOf];omega⟩
    ·have hd:decide ((k:Int) < 2)=false:=by simp;omega
     have HM:=hid (show CfgAt W2 wr (w.heap.size+1+1) 3 T [] [] (.slice a k c) (.slice none 0 0) (.slice none 0 0)/\T.length=k/\(∀ p∈T,okT 3 p)/\k<=6/\1<=k from ⟨HC.out.1,HC.out.2.1,HC.out.2.2,hk,by omega⟩)
     clear h2
     go_wp2_with fail
     go_meet
     exact ⟨k,a,c,T,HM.out⟩
  case rest=>
   clear HC k1 lc k6
   obtain ⟨k,a,c,T,HC⟩:=hcut
   have lc:=HC.out.1.lt
   have k1:=(HC.out.1.cell 1).trans (show _=some (Value.slice a k c) from rfl)
   have k6:=HC.out.2.2.2.1
   have k0:=HC.out.2.2.2.2
   have HT:=hid HC.out.2
   go_upto_block 4 with fail
   go_cut [9] from 65 to 154 (fun v wx=>∃ (m2:Nat) (a2:Option Addr) (c2:Nat) (Q:List (Int×Int×Int×Int)),Hid (CfgAt W2 wx (w.heap.size+1+1) 3 T Q [] (.slice a k c) (.slice a2 m2 c2) (.slice none 0 0)/\Q.length=m2/\QOk true T k Q))
   case first=>
    go_wp2_with fail
    go_loopw [9] (fun i wr=>∃ (j m2:Nat) (a2:Option Addr) (c2:Nat) (Q:List (Int×Int×Int×Int)),j<=mP/\i=.int .i64 j/\m2<=18/\Hid (CfgAt W2 wr (w.heap.size+1+1) 3 T Q [] (.slice a k c) (.slice a2 m2 c2) (.slice none 0 0)/\Q.length=m2/\QOk true T k Q)) (fun i _=>mP-(intOf i).toNat)
    case atStart=>exact ⟨0,0,none,0,[],by omega,rfl,by omega,HC.out.1,rfl,QOk.nil _ _ _⟩
    case round=>
     obtain ⟨j,m2,a2,c2,Q,hj,rfl,hm2,HD⟩:=hrel
     have lc:=HD.out.1.lt
     have k2:=(HD.out.1.cell 2).trans (show _=some (Value.slice a2 m2 c2) from rfl)
     have k1:=(HD.out.1.cell 1).trans (show _=some (Value.slice a k c) from rfl)
     have v1:=(plan_cell HD.out.1.bel HP.out.1 (by have:=HP.out.2.2.1;omega) 1).trans (show _=some (Value.slice aP mP cP) from rfl)
     by_cases hjm:j < mP
     ·have hjm1:(j:Int) < (mP:Int):=by omega
      obtain ⟨z,hz⟩:∃ z,PP[j]? = some z:=⟨_,List.getElem?_eq_getElem (by have:=HL.out.2.1;omega)⟩
      have zb:=HR.out.2.1 z (List.mem_of_getElem? hz)
      obtain ⟨bl,ol,ea,cw⟩:=word_at (HI.out.2.1.below (by omega) HD.out.1.bel) hz
      subst ea
      have lbl:bl < W2.heap.size:=block_lt_of_cell (word_at2 HI.out.2.1 hz)
      have lw:w.heap.size < wr.heap.size:=by omega
      have lb:bl < wr.heap.size:=block_lt_of_cell cw
      have ne1:=World.new_ne wr _ v1
      have ne2:=World.new_ne wr _ cw
      have PA:=hid (fun w=>pickK_any z 3 w zb.1 zb.2 (by omega) (by omega))
      have PB:=hid (fun w=>pickK_any (z.tdiv 3) 6 w (tdiv_in (by omega) zb.1 zb.2).1 (tdiv_in (by omega) zb.1 zb.2).2 (by omega) (by omega))
      have PC:=hid (fun w=>pickK_any (z.tdiv 18) k w (tdiv_in (by omega) zb.1 zb.2).1 (tdiv_in (by omega) zb.1 zb.2).2 (by omega) (by omega))
      have PD:=hid (fun w=>pickK_any (z.tdiv 108) 3 w (tdiv_in (by omega) zb.1 zb.2).1 (tdiv_in (by omega) zb.1 zb.2).2 (by omega) (by omega))
      have wz3:IntKind.i64.wrap (z.tdiv 3)=z.tdiv 3:=wrap_in (tdiv_in (by omega) zb.1 zb.2).1 (tdiv_in (by omega) zb.1 zb.2).2
      have wz18:IntKind.i64.wrap (z.tdiv 18)=z.tdiv 18:=wrap_in (tdiv_in (by omega) zb.1 zb.2).1 (tdiv_in (by omega) zb.1 zb.2).2
      have wz108:IntKind.i64.wrap (z.tdiv 108)=z.tdiv 108:=wrap_in (tdiv_in (by omega) zb.1 zb.2).1 (tdiv_in (by omega) zb.1 zb.2).2
      obtain ⟨ps,hps⟩:∃ q,pickI z 3=q:=⟨_,rfl⟩
      have rps:=pickI_in z (n:=3) (by omega)
      rw [hps] at PA rps
      obtain ⟨pl,hpl⟩:∃ q,pickI (z.tdiv 3) 6=q:=⟨_,rfl⟩
      have rpl:=pickI_in (z.tdiv 3) (n:=6) (by omega)
      rw [hpl] at PB rpl
      obtain ⟨pt,hpt⟩:∃ q,pickI (z.tdiv 18) k=q:=⟨_,rfl⟩
      have rpt:=pickI_in (z.tdiv 18) (n:=k) (by omega)
      rw [hpt] at PC rpt
      obtain ⟨pr,hpr⟩:∃ q,pickI (z.tdiv 108) 3=q:=⟨_,rfl⟩
      have rpr:=pickI_in (z.tdiv 108) (n:=3) (by omega)
      rw [hpr] at PD rpr
      have w1r:IntKind.i64.wrap (1+pr)=1+pr:=wrap_in (by omega) (by omega)
      clear hz zb hps hpl hpt hpr
      go_wp2_with fail
      go_cut [10] from 72 to 101 (fun v wx=>v=.pointer (some ⟨wr.heap.size,0,none⟩)/\wx=(wr.alloc (.cells #[(.int .i64 ps),(.int .i64 pl),(.int .i64 pt),(.int .i64 (1+pr))] 55)).drew)
      case first=>
       go_region_held3 (fun w'=>w'.cell? ⟨w.heap.size,1,none⟩=some (.slice (some ⟨bl,ol,none⟩) mP cP)/\w'.cell? ⟨bl,ol+j,none⟩=some (.int .i64 z)) (go_keep)
        (first
         | (go_at_call 16;with_reducible refine (PA.out _).mono ?_;rintro e w1 ⟨rfl,rfl⟩)
         | (go_at_call 16;with_reducible refine (PB.out _).mono ?_;rintro e w1 ⟨rfl,rfl⟩)
         | (go_at_call 16;with_reducible refine (PC.out _).mono ?_;rintro e w1 ⟨rfl,rfl⟩)
         | (go_at_call 16;with_reducible refine (PD.out _).mono ?_;rintro e w1 ⟨rfl,rfl⟩))
       all_goals (go_wp2_with fail;go_meet;exact ⟨rfl,rfl⟩)
      case rest=>
       obtain ⟨rfl,rfl⟩:=hcut
       have hX:=heap_alloc_new wr (.cells #[(.int .i64 ps),(.int .i64 pl),(.int .i64 pt),(.int .i64 (1+pr))] 55)
       have HE:=hid (HD.out.1.below (((Below.refl _ wr).alloc (Nat.le_refl _) (.cells #[(.int .i64 ps),(.int .i64 pl),(.int .i64 pt),(.int .i64 (1+pr))] 55)).drew))
       have bX:Below wr.heap.size wr (wr.alloc (.cells #[(.int .i64 ps),(.int .i64 pl),(.int .i64 pt),(.int .i64 (1+pr))] 55)).drew:=((Below.refl _ wr).alloc (Nat.le_refl _) _).drew
       have lX:wr.heap.size < (wr.alloc (.cells #[(.int .i64 ps),(.int .i64 pl),(.int .i64 pt),(.int .i64 (1+pr))] 55)).drew.heap.size:=by simp
       obtain ⟨WX,hWX⟩:∃ WX,(wr.alloc (.cells #[(.int .i64 ps),(.int .i64 pl),(.int .i64 pt),(.int .i64 (1+pr))] 55)).drew=WX:=⟨_,rfl⟩
       have hX2:WX.heap[wr.heap.size]? = some (.cells #[(.int .i64 ps),(.int .i64 pl),(.int .i64 pt),(.int .i64 (1+pr))] 55 (0,0)):=by rw [<- hWX];exact hX
       rw [hWX] at HE bX lX ⊢
       obtain ⟨B,hB⟩:∃ B,wr.heap.size=B:=⟨_,rfl⟩
       rw [hB] at bX lX hX2 lw lb ⊢
       have HX:=hid hX2
       have HBX:=hid bX
       have HQL:=hid HD.out.2.1
       have HQK:=hid HD.out.2.2
       clear hX hWX bX hX2 hB HD k1 k2 lc ne1 ne2 v1 cw
       have x0:=(cell_of_row WX _ 0 _ _ _ HX.out).trans (show _=some (Value.int .i64 ps) from rfl)
       have x1:=(cell_of_row WX _ 1 _ _ _ HX.out).trans (show _=some (Value.int .i64 pl) from rfl)
       have x2:=(cell_of_row WX _ 2 _ _ _ HX.out).trans (show _=some (Value.int .i64 pt) from rfl)
       have x3:=(cell_of_row WX _ 3 _ _ _ HX.out).trans (show _=some (Value.int .i64 (1+pr)) from rfl)
       have k2:=(HE.out.cell 2).trans (show _=some (Value.slice a2 m2 c2) from rfl)
       have k1:=(HE.out.cell 1).trans (show _=some (Value.slice a k c) from rfl)
       have lc:=HE.out.lt
       obtain ⟨g,ea,hxx⟩:=HE.out.sT.is_some (by omega)
       clear hxx
       subst ea
       obtain ⟨ptn,hptn⟩:∃ q:Nat,pt=q:=Int.eq_ofNat_of_zero_le rpt.1
       subst hptn
       have hpk:(ptn:Int) < (k:Int):=rpt.2
       obtain ⟨tp,htp⟩:∃ p,T[ptn]? = some p:=⟨_,List.getElem?_eq_getElem (by have:=HC.out.2.1;omega)⟩
       have ct:WX.cell? ⟨g,ptn*2,none⟩=some (.int .i64 tp.1):=HE.out.sT.row (i:=ptn) (r:=tRow tp) (by rw [List.getElem?_map,htp];rfl) 0 _ rfl
       have HTP:=hid htp
       clear htp
       obtain ⟨tw0,htw0⟩:∃ b:Bool,b=((ps == 0) != (tp.1 == 0)):=⟨_,rfl⟩
       have HTW:=hid htw0
       clear htw0
       go_upto_region 15 with fail
       go_cut [11] from 102 to 116 (fun v wx=>v=.bool tw0/\∃ nq,wx=WX.drewN nq)
       case first=>
        by_cases g1:ps=0
        ·by_cases g2:tp.1=0
         ·skip
          have f1:(ps == 0)=true:=by simpa using g1
          have f2:(tp.1 == 0)=true:=by simpa using g2
          have et:tw0=false:=by rw [HTW.out,f1,f2];rfl
          subst et
          clear g1 g2
          go_quiet (fail)
          go_wp2_with fail
          go_meet
          exact ⟨rfl,_,rfl⟩
         ·skip
          have f1:(ps == 0)=true:=by simpa using g1
          have f2:(tp.1 == 0)=false:=by simpa using g2
          have et:tw0=true:=by rw [HTW.out,f1,f2];rfl
          subst et
          clear g1 g2
          go_quiet (fail)
          go_wp2_with fail
          go_meet
          exact ⟨rfl,_,rfl⟩
        ·by_cases g2:tp.1=0
         ·skip
          have f1:(ps == 0)=false:=by simpa using g1
          have f2:(tp.1 == 0)=true:=by simpa using g2
          have et:tw0=true:=by rw [HTW.out,f1,f2];rfl
          subst et
          clear g1 g2
          go_quiet (fail)
          go_wp2_with fail
          go_meet
          exact ⟨rfl,_,rfl⟩
         ·skip
          have f1:(ps == 0)=false:=by simpa using g1
          have f2:(tp.1 == 0)=false:=by simpa using g2
          have et:tw0=false:=by rw [HTW.out,f1,f2];rfl
          subst et
          clear g1 g2
          go_quiet (fail)
          go_wp2_with fail
          go_meet
          exact ⟨rfl,_,rfl⟩
       case rest=>
        obtain ⟨rfl,nq0,rfl⟩:=hcut
        go_upto_block 6 with fail
        go_cut [11,12] from 117 to 146 (fun v v2 wx=>∃ tw:Bool,v=.bool tw/\Hid (Below WX.heap.size WX wx/\(tw=false->tw0=false/\∀ (i:Nat) y,i < m2->Q[i]? = some y->¬ (y.1=ps/\y.2.1=pl))))
        case first=>
         go_wp2_with fail
         go_loopw [11,12] (fun v i wr=>∃ (q:Nat) (tw:Bool),q<=m2/\v=.bool tw/\i=.int .i64 q/\Hid (Below WX.heap.size WX wr/\(tw=false->tw0=false/\∀ (i:Nat) y,i < q->Q[i]? = some y->¬ (y.1=ps/\y.2.1=pl)))) (fun _ i _=>m2-(intOf i).toNat)
         case atStart=>exact ⟨0,tw0,Nat.zero_le _,rfl,rfl,by first | exact Below.refl _ _ | exact (Below.refl _ _).drew | exact below_drewN (Below.refl _ _) _,fun htw=>⟨htw,fun i y h=>absurd h (by omega)⟩⟩
         case round=>
          obtain ⟨q,tw,hq,rfl,rfl,HY⟩:=hrel
          have HF:=hid (HE.out.below HY.out.1)
          have k3:=(HF.out.cell 2).trans (show _=some (Value.slice a2 m2 c2) from rfl)
          have lc3:=HF.out.lt
          have zz:=HY.out.1.size
          have y0:=(cell_of_row wr _ 0 _ _ _ ((HY.out.1.block _ lX).trans HX.out)).trans (show _=some (Value.int .i64 ps) from rfl)
          have y1:=(cell_of_row wr _ 1 _ _ _ ((HY.out.1.block _ lX).trans HX.out)).trans (show _=some (Value.int .i64 pl) from rfl)
          have ly:B < wr.heap.size:=by omega
          by_cases hqm:q < m2
          ·have hqm':(q:Int) < (m2:Int):=by omega
           obtain ⟨g,ea,hxx⟩:=HF.out.sP.is_some (by omega)
           clear hxx
           subst ea
           obtain ⟨p,hp⟩:∃ p,Q[q]? = some p:=⟨_,List.getElem?_eq_getElem (by have:=HQL.out;omega)⟩
           have c0:wr.cell? ⟨g,q*4,none⟩=some (.int .i64 p.1):=HF.out.sP.row (i:=q) (r:=qRow p) (by rw [List.getElem?_map,hp];rfl) 0 _ rfl
           have c1:wr.cell? ⟨g,q*4+1,none⟩=some (.int .i64 p.2.1):=HF.out.sP.row (i:=q) (r:=qRow p) (by rw [List.getElem?_map,hp];rfl) 1 _ rfl
           have lg:=block_lt_of_cell c0
           have HPq:=hid hp
           clear hp
           cases tw with
           | true=>
            have HN:=hid HY.out.1
            clear HY
            go_wp2_with fail
            go_quiet (fail)
            go_wp2_with fail
            first
             | exact ⟨⟨q+1,true,by omega,rfl,by go_num,(by first | exact HN.out | exact HN.out.drew | exact below_drewN HN.out _),fun h=>by cases h⟩,by simp [intOf];omega⟩
             | (
              go_roundw
              case rel=>first | exact ⟨q+1,true,by omega,rfl,by go_num,(by first | exact HN.out | exact HN.out.drew | exact below_drewN HN.out _),fun h=>by cases h⟩ | ((repeat apply Exists.intro);exact ⟨⟨q+1,true,by omega,rfl,by go_num,(by first | exact HN.out | exact HN.out.drew | exact below_drewN HN.out _),fun h=>by cases h⟩,rfl⟩)
              case measure=>simp [intOf];omega)
           | false=>
            have HNN:=hid (show ¬ (p.1=ps/\p.2.1=pl)->tw0=false/\(∀ (i:Nat) q',i < q+1->Q[i]? = some q'->¬ (q'.1=ps/\q'.2.1=pl)) from fun hne=>⟨(HY.out.2 rfl).1,fun i q' hi hq'=>by
             by_cases hh:i < q
             ·exact (HY.out.2 rfl).2 i q' hh hq'
             ·have:i=q:=by omega
              subst this
              rw [HPq.out] at hq'
              cases hq'
              exact hne⟩)
            have HN:=hid HY.out.1
            clear HY
            by_cases e1:p.1=ps
            ·by_cases e2:p.2.1=pl
             ·have f1:(p.1 == ps)=true:=by simpa using e1
              have f2:(p.2.1 == pl)=true:=by simpa using e2
              clear e1 e2
              go_wp2_with fail
              go_quiet (fail)
              go_wp2_with fail
              first
               | exact ⟨⟨q+1,true,by omega,rfl,by go_num,(by first | exact HN.out | exact HN.out.drew | exact below_drewN HN.out _),fun h=>by cases h⟩,by simp [intOf];omega⟩
               | (
                go_roundw
                case rel=>first | exact ⟨q+1,true,by omega,rfl,by go_num,(by first | exact HN.out | exact HN.out.drew | exact below_drewN HN.out _),fun h=>by cases h⟩ | ((repeat apply Exists.intro);exact ⟨⟨q+1,true,by omega,rfl,by go_num,(by first | exact HN.out | exact HN.out.drew | exact below_drewN HN.out _),fun h=>by cases h⟩,rfl⟩)
                case measure=>simp [intOf];omega)
             ·have f1:(p.1 == ps)=true:=by simpa using e1
              have f2:(p.2.1 == pl)=false:=by simpa using e2
              have HM:=hid (HNN.out (fun h=>e2 h.2))
              clear e1 e2
              go_wp2_with fail
              go_quiet (fail)
              go_wp2_with fail
              first
               | exact ⟨⟨q+1,false,by omega,rfl,by go_num,(by first | exact HN.out | exact HN.out.drew | exact below_drewN HN.out _),fun _=>HM.out⟩,by simp [intOf];omega⟩
               | (
                go_roundw
                case rel=>first | exact ⟨q+1,false,by omega,rfl,by go_num,(by first | exact HN.out | exact HN.out.drew | exact below_drewN HN.out _),fun _=>HM.out⟩ | ((repeat apply Exists.intro);exact ⟨⟨q+1,false,by omega,rfl,by go_num,(by first | exact HN.out | exact HN.out.drew | exact below_drewN HN.out _),fun _=>HM.out⟩,rfl⟩)
                case measure=>simp [intOf];omega)
            ·have f1:(p.1 == ps)=false:=by simpa using e1
             have HM:=hid (HNN.out (fun h=>e1 h.1))
             clear e1
             go_wp2_with fail
             go_quiet (fail)
             go_wp2_with fail
             first
              | exact ⟨⟨q+1,false,by omega,rfl,by go_num,(by first | exact HN.out | exact HN.out.drew | exact below_drewN HN.out _),fun _=>HM.out⟩,by simp [intOf];omega⟩
              | (
               go_roundw
               case rel=>first | exact ⟨q+1,false,by omega,rfl,by go_num,(by first | exact HN.out | exact HN.out.drew | exact below_drewN HN.out _),fun _=>HM.out⟩ | ((repeat apply Exists.intro);exact ⟨⟨q+1,false,by omega,rfl,by go_num,(by first | exact HN.out | exact HN.out.drew | exact below_drewN HN.out _),fun _=>HM.out⟩,rfl⟩)
               case measure=>simp [intOf];omega)
          ·obtain rfl:q=m2:=by omega
           have hqd:decide ((q:Int) < (q:Int))=false:=by simp
           clear hqm
           go_wp2_with fail
           go_meet
           exact ⟨tw,rfl,HY.out⟩
        case rest=>
         obtain ⟨tw,rfl,HZ⟩:=hcut
         have HG:=hid (HE.out.below HZ.out.1)
         have k3:=(HG.out.cell 2).trans (show _=some (Value.slice a2 m2 c2) from rfl)
         have lc3:=HG.out.lt
         have lB:=Nat.lt_of_lt_of_le lX HZ.out.1.size
         have XR:=hid (show wc.rangeAt B 0 [(.int .i64 ps),(.int .i64 pl),(.int .i64 (ptn:Int)),(.int .i64 (1+pr))] from fun i v hv=>by rw [cell_of_row _ _ (0+i) _ _ _ ((HZ.out.1.block _ lX).trans HX.out),Nat.zero_add,List.getElem?_toArray];exact hv)
         have OKX:=hid (show okQ 3 ((k:Int)-1) (ps,pl,(ptn:Int),1+pr) by unfold okQ;dsimp only;omega)
         have HZX:=hid (show tw=false->(true=true->(ps=0↔Z0 T ((ptn:Int)).toNat)) from fun ht _=>by
          have h0:=(HZ.out.2 ht).1
          rw [HTW.out] at h0
          rw [Int.toNat_natCast]
          constructor
          ·intro e
           refine ⟨tp,HTP.out,?_⟩
           simpa [e] using h0
          ·rintro ⟨p,hp,e⟩
           rw [HTP.out] at hp
           cases hp
           simpa [e] using h0)
         clear k1 k2 x0 x1 x2 x3 lc
         cases tw with
         | true=>
          have HO:=hid (And.intro HG.out (And.intro HQL.out HQK.out))
          clear HE HZ
          go_wp2_with fail
          first
           | exact ⟨⟨j+1,m2,a2,c2,Q,by omega,by go_num,hm2,HO.out⟩,by simp [intOf];omega⟩
           | (
            go_roundw
            case rel=>first | exact ⟨j+1,m2,a2,c2,Q,by omega,by go_num,hm2,HO.out⟩ | ((repeat apply Exists.intro);exact ⟨⟨j+1,m2,a2,c2,Q,by omega,by go_num,hm2,HO.out⟩,rfl⟩)
            case measure=>simp [intOf];omega)
         | false=>
          have NK:=hid (HQK.out.add (x:=(ps,pl,(ptn:Int),1+pr)) OKX.out (NoPl.imp_len (HZ.out.2 rfl).2 HQL.out) (HZX.out rfl))
          clear HE
          go_wp2_with (first
           | (with_reducible (show wpList _ _ _ (⟨_,.load 55 _,_,_,_,none⟩ :: _) _ _);go_must (refine wpList_load_mid rfl 55 _ rfl B 0 rfl _ _ XR.out Tryz.underlying55 rfl (by kernel_rfl) ?_))
           | (at_builtin;go_must (refine wpList_append_n _ rfl _ _ 29 rfl 55 i1 _ 4 32 Tryz.underlying29 hi1 hy0 hy1 hy2 rfl (by decide) (.slice a2 m2 c2) (Q.map qRow) rfl (HG.out.below ((Below.refl _ wc).alloc (Nat.le_refl _) _)).sP (some ⟨wc.heap.size,0,none⟩) 1 1 [qRow (ps,pl,(ptn:Int),1+pr)] rfl (inl_row (qRow (ps,pl,(ptn:Int),1+pr)) 55 rfl (q_oneK _)) (m2+1) (by rw [List.length_map,HQL.out];rfl) (by unfold maxLen;omega) (by omega) ?_);intro a3 c3 w3 G3;obtain ⟨u1,u2,H3⟩:=HG.out.addP ((Fr.refl (fun _=>False) wc).alloc _) G3;replace H3:=hid H3;clear G3))
          have HO:=hid (And.intro H3.out (And.intro (show (Q ++ [(ps,pl,(ptn:Int),1+pr)]).length=m2+1 by rw [List.length_append,HQL.out];rfl) NK.out))
          have m18:m2+1<=18:=by have:=NK.out.len;rw [HO.out.2.1] at this;exact this
          first
           | exact ⟨⟨j+1,m2+1,a3,c3,Q ++ [(ps,pl,(ptn:Int),1+pr)],by omega,by go_num,m18,HO.out⟩,by simp [intOf];omega⟩
           | (
            go_roundw
            case rel=>first | exact ⟨j+1,m2+1,a3,c3,Q ++ [(ps,pl,(ptn:Int),1+pr)],by omega,by go_num,m18,HO.out⟩ | ((repeat apply Exists.intro);exact ⟨⟨j+1,m2+1,a3,c3,Q ++ [(ps,pl,(ptn:Int),1+pr)],by omega,by go_num,m18,HO.out⟩,rfl⟩)
            case measure=>simp [intOf];omega)
     ·obtain rfl:j=mP:=by omega
      have HM:=hid (And.intro HD.out.1 (And.intro HD.out.2.1 HD.out.2.2))
      clear hjm
      go_wp2_with fail
      go_meet
      exact ⟨m2,a2,c2,Q,HM.out⟩
   case rest=>
    clear HC lc k1
    obtain ⟨mp,ap,cp,QP,HC⟩:=hcut
    have lc:=HC.out.1.lt
    have k1:=(HC.out.1.cell 1).trans (show _=some (Value.slice a k c) from rfl)
    have mp18:mp<=18:=by have:=HC.out.2.2.len;rw [HC.out.2.1] at this;exact this
    go_upto_block 8 with fail
    go_cut [13] from 155 to 226 (fun v wx=>∃ (m2:Nat) (a2:Option Addr) (c2:Nat) (Q:List (Int×Int×Int×Int)),Hid (CfgAt W2 wx (w.heap.size+1+1) 3 T QP Q (.slice a k c) (.slice ap mp cp) (.slice a2 m2 c2)/\Q.length=m2/\(∃ j,LfOk j Q)))
    case first=>
     go_wp2_with fail
     go_loopw [13] (fun i wr=>∃ (j m2:Nat) (a2:Option Addr) (c2:Nat) (Q:List (Int×Int×Int×Int)),j<=8/\j<=mL/\i=.int .i64 j/\m2<=18/\Hid (CfgAt W2 wr (w.heap.size+1+1) 3 T QP Q (.slice a k c) (.slice ap mp cp) (.slice a2 m2 c2)/\Q.length=m2/\LfOk j Q)) (fun i _=>8-(intOf i).toNat)
     case atStart=>exact ⟨0,0,none,0,[],by omega,by omega,rfl,by omega,HC.out.1,rfl,LfOk.nil⟩
     case round=>
      obtain ⟨j,m2,a2,c2,Q,hj8,hj,rfl,hm2,HD⟩:=hrel
      have lc:=HD.out.1.lt
      have k2:=(HD.out.1.cell 3).trans (show _=some (Value.slice a2 m2 c2) from rfl)
      have k1:=(HD.out.1.cell 1).trans (show _=some (Value.slice a k c) from rfl)
      have v1:=(plan_cell HD.out.1.bel HP.out.1 (by have:=HP.out.2.2.1;omega) 2).trans (show _=some (Value.slice aL mL cL) from rfl)
      by_cases hjm:j < 8/\j < mL
      ·have hjm1:(j:Int) < (mL:Int):=by omega
       have hj81:(j:Int) < 8:=by omega
       obtain ⟨z,hz⟩:∃ z,PL[j]? = some z:=⟨_,List.getElem?_eq_getElem (by have:=HL.out.2.2;omega)⟩
       have zb:=HR.out.2.2 z (List.mem_of_getElem? hz)
       obtain ⟨bl,ol,ea,cw⟩:=word_at (HI.out.2.2.below (by omega) HD.out.1.bel) hz
       subst ea
       have lbl:bl < W2.heap.size:=block_lt_of_cell (word_at2 HI.out.2.2 hz)
       have lw:w.heap.size < wr.heap.size:=by omega
       have lb:bl < wr.heap.size:=block_lt_of_cell cw
       have ne1:=World.new_ne wr _ v1
       have ne2:=World.new_ne wr _ cw
       have PA:=hid (fun w=>pickK_any z 3 w zb.1 zb.2 (by omega) (by omega))
       have PB:=hid (fun w=>pickK_any (z.tdiv 3) 6 w (tdiv_in (by omega) zb.1 zb.2).1 (tdiv_in (by omega) zb.1 zb.2).2 (by omega) (by omega))
       have PD:=hid (fun w=>pickK_any (z.tdiv 18) 3 w (tdiv_in (by omega) zb.1 zb.2).1 (tdiv_in (by omega) zb.1 zb.2).2 (by omega) (by omega))
       have wz3:IntKind.i64.wrap (z.tdiv 3)=z.tdiv 3:=wrap_in (tdiv_in (by omega) zb.1 zb.2).1 (tdiv_in (by omega) zb.1 zb.2).2
       have wz18:IntKind.i64.wrap (z.tdiv 18)=z.tdiv 18:=wrap_in (tdiv_in (by omega) zb.1 zb.2).1 (tdiv_in (by omega) zb.1 zb.2).2
       obtain ⟨ps,hps⟩:∃ q,pickI z 3=q:=⟨_,rfl⟩
       have rps:=pickI_in z (n:=3) (by omega)
       rw [hps] at PA rps
       obtain ⟨pl,hpl⟩:∃ q,pickI (z.tdiv 3) 6=q:=⟨_,rfl⟩
       have rpl:=pickI_in (z.tdiv 3) (n:=6) (by omega)
       rw [hpl] at PB rpl
       obtain ⟨pr,hpr⟩:∃ q,pickI (z.tdiv 18) 3=q:=⟨_,rfl⟩
       have rpr:=pickI_in (z.tdiv 18) (n:=3) (by omega)
       rw [hpr] at PD rpr
       have w1r:IntKind.i64.wrap (1+pr)=1+pr:=wrap_in (by omega) (by omega)
       clear hz zb hps hpl hpr
       go_wp2_with fail
       go_cut [14] from 166 to 188 (fun v wx=>v=.pointer (some ⟨wr.heap.size,0,none⟩)/\wx=(wr.alloc (.cells #[(.int .i64 ps),(.int .i64 pl),(.int .i64 j),(.int .i64 (1+pr))] 67)).drew)
       case first=>
        go_region_held3 (fun w'=>w'.cell? ⟨w.heap.size,2,none⟩=some (.slice (some ⟨bl,ol,none⟩) mL cL)/\w'.cell? ⟨bl,ol+j,none⟩=some (.int .i64 z)) (go_keep)
         (first
          | (go_at_call 16;with_reducible refine (PA.out _).mono ?_;rintro e w1 ⟨rfl,rfl⟩)
          | (go_at_call 16;with_reducible refine (PB.out _).mono ?_;rintro e w1 ⟨rfl,rfl⟩)
          | (go_at_call 16;with_reducible refine (PD.out _).mono ?_;rintro e w1 ⟨rfl,rfl⟩))
        all_goals (go_wp2_with fail;go_meet;exact ⟨rfl,rfl⟩)
       case rest=>
        obtain ⟨rfl,rfl⟩:=hcut
        have hX:=heap_alloc_new wr (.cells #[(.int .i64 ps),(.int .i64 pl),(.int .i64 j),(.int .i64 (1+pr))] 67)
        have HE:=hid (HD.out.1.below (((Below.refl _ wr).alloc (Nat.le_refl _) (.cells #[(.int .i64 ps),(.int .i64 pl),(.int .i64 j),(.int .i64 (1+pr))] 67)).drew))
        have bX:Below wr.heap.size wr (wr.alloc (.cells #[(.int .i64 ps),(.int .i64 pl),(.int .i64 j),(.int .i64 (1+pr))] 67)).drew:=((Below.refl _ wr).alloc (Nat.le_refl _) _).drew
        have lX:wr.heap.size < (wr.alloc (.cells #[(.int .i64 ps),(.int .i64 pl),(.int .i64 j),(.int .i64 (1+pr))] 67)).drew.heap.size:=by simp
        obtain ⟨WX,hWX⟩:∃ WX,(wr.alloc (.cells #[(.int .i64 ps),(.int .i64 pl),(.int .i64 j),(.int .i64 (1+pr))] 67)).drew=WX:=⟨_,rfl⟩
        have hX2:WX.heap[wr.heap.size]? = some (.cells #[(.int .i64 ps),(.int .i64 pl),(.int .i64 j),(.int .i64 (1+pr))] 67 (0,0)):=by rw [<- hWX];exact hX
        rw [hWX] at HE bX lX ⊢
        obtain ⟨B,hB⟩:∃ B,wr.heap.size=B:=⟨_,rfl⟩
        rw [hB] at bX lX hX2 lw lb ⊢
        have HX:=hid hX2
        have HBX:=hid bX
        have HQL:=hid HD.out.2.1
        have HQK:=hid HD.out.2.2
        clear hX hWX bX hX2 hB HD k1 k2 lc ne1 ne2 v1 cw
        have x0:=(cell_of_row WX _ 0 _ _ _ HX.out).trans (show _=some (Value.int .i64 ps) from rfl)
        have x1:=(cell_of_row WX _ 1 _ _ _ HX.out).trans (show _=some (Value.int .i64 pl) from rfl)
        have x2:=(cell_of_row WX _ 2 _ _ _ HX.out).trans (show _=some (Value.int .i64 (j:Int)) from rfl)
        have x3:=(cell_of_row WX _ 3 _ _ _ HX.out).trans (show _=some (Value.int .i64 (1+pr)) from rfl)
        have k2:=(HE.out.cell 3).trans (show _=some (Value.slice a2 m2 c2) from rfl)
        have k1:=(HE.out.cell 1).trans (show _=some (Value.slice a k c) from rfl)
        have lc:=HE.out.lt
        go_upto_block 10 with fail
        go_cut [15,16] from 189 to 218 (fun v v2 wx=>∃ tw:Bool,v=.bool tw/\Hid (Below WX.heap.size WX wx/\(tw=false->True/\∀ (i:Nat) y,i < m2->Q[i]? = some y->¬ (y.1=ps/\y.2.1=pl))))
        case first=>
         go_wp2_with fail
         go_loopw [15,16] (fun v i wr=>∃ (q:Nat) (tw:Bool),q<=m2/\v=.bool tw/\i=.int .i64 q/\Hid (Below WX.heap.size WX wr/\(tw=false->True/\∀ (i:Nat) y,i < q->Q[i]? = some y->¬ (y.1=ps/\y.2.1=pl)))) (fun _ i _=>m2-(intOf i).toNat)
         case atStart=>exact ⟨0,false,Nat.zero_le _,rfl,rfl,by first | exact Below.refl _ _ | exact (Below.refl _ _).drew | exact below_drewN (Below.refl _ _) _,fun htw=>⟨trivial,fun i y h=>absurd h (by omega)⟩⟩
         case round=>
          obtain ⟨q,tw,hq,rfl,rfl,HY⟩:=hrel
          have HF:=hid (HE.out.below HY.out.1)
          have k3:=(HF.out.cell 3).trans (show _=some (Value.slice a2 m2 c2) from rfl)
          have lc3:=HF.out.lt
          have zz:=HY.out.1.size
          have y0:=(cell_of_row wr _ 0 _ _ _ ((HY.out.1.block _ lX).trans HX.out)).trans (show _=some (Value.int .i64 ps) from rfl)
          have y1:=(cell_of_row wr _ 1 _ _ _ ((HY.out.1.block _ lX).trans HX.out)).trans (show _=some (Value.int .i64 pl) from rfl)
          have ly:B < wr.heap.size:=by omega
          by_cases hqm:q < m2
          ·have hqm':(q:Int) < (m2:Int):=by omega
           obtain ⟨g,ea,hxx⟩:=HF.out.sL.is_some (by omega)
           clear hxx
           subst ea
           obtain ⟨p,hp⟩:∃ p,Q[q]? = some p:=⟨_,List.getElem?_eq_getElem (by have:=HQL.out;omega)⟩
           have c0:wr.cell? ⟨g,q*4,none⟩=some (.int .i64 p.1):=HF.out.sL.row (i:=q) (r:=qRow p) (by rw [List.getElem?_map,hp];rfl) 0 _ rfl
           have c1:wr.cell? ⟨g,q*4+1,none⟩=some (.int .i64 p.2.1):=HF.out.sL.row (i:=q) (r:=qRow p) (by rw [List.getElem?_map,hp];rfl) 1 _ rfl
           have lg:=block_lt_of_cell c0
           have HPq:=hid hp
           clear hp
           cases tw with
           | true=>
            have HN:=hid HY.out.1
            clear HY
            go_wp2_with fail
            go_quiet (fail)
            go_wp2_with fail
            first
             | exact ⟨⟨q+1,true,by omega,rfl,by go_num,(by first | exact HN.out | exact HN.out.drew | exact below_drewN HN.out _),fun h=>by cases h⟩,by simp [intOf];omega⟩
             | (
              go_roundw
              case rel=>first | exact ⟨q+1,true,by omega,rfl,by go_num,(by first | exact HN.out | exact HN.out.drew | exact below_drewN HN.out _),fun h=>by cases h⟩ | ((repeat apply Exists.intro);exact ⟨⟨q+1,true,by omega,rfl,by go_num,(by first | exact HN.out | exact HN.out.drew | exact below_drewN HN.out _),fun h=>by cases h⟩,rfl⟩)
              case measure=>simp [intOf];omega)
           | false=>
            have HNN:=hid (show ¬ (p.1=ps/\p.2.1=pl)->True/\(∀ (i:Nat) q',i < q+1->Q[i]? = some q'->¬ (q'.1=ps/\q'.2.1=pl)) from fun hne=>⟨(HY.out.2 rfl).1,fun i q' hi hq'=>by
             by_cases hh:i < q
             ·exact (HY.out.2 rfl).2 i q' hh hq'
             ·have:i=q:=by omega
              subst this
              rw [HPq.out] at hq'
              cases hq'
              exact hne⟩)
            have HN:=hid HY.out.1
            clear HY
            by_cases e1:p.1=ps
            ·by_cases e2:p.2.1=pl
             ·have f1:(p.1 == ps)=true:=by simpa using e1
              have f2:(p.2.1 == pl)=true:=by simpa using e2
              clear e1 e2
              go_wp2_with fail
              go_quiet (fail)
              go_wp2_with fail
              first
               | exact ⟨⟨q+1,true,by omega,rfl,by go_num,(by first | exact HN.out | exact HN.out.drew | exact below_drewN HN.out _),fun h=>by cases h⟩,by simp [intOf];omega⟩
               | (
                go_roundw
                case rel=>first | exact ⟨q+1,true,by omega,rfl,by go_num,(by first | exact HN.out | exact HN.out.drew | exact below_drewN HN.out _),fun h=>by cases h⟩ | ((repeat apply Exists.intro);exact ⟨⟨q+1,true,by omega,rfl,by go_num,(by first | exact HN.out | exact HN.out.drew | exact below_drewN HN.out _),fun h=>by cases h⟩,rfl⟩)
                case measure=>simp [intOf];omega)
             ·have f1:(p.1 == ps)=true:=by simpa using e1
              have f2:(p.2.1 == pl)=false:=by simpa using e2
              have HM:=hid (HNN.out (fun h=>e2 h.2))
              clear e1 e2
              go_wp2_with fail
              go_quiet (fail)
              go_wp2_with fail
              first
               | exact ⟨⟨q+1,false,by omega,rfl,by go_num,(by first | exact HN.out | exact HN.out.drew | exact below_drewN HN.out _),fun _=>HM.out⟩,by simp [intOf];omega⟩
               | (
                go_roundw
                case rel=>first | exact ⟨q+1,false,by omega,rfl,by go_num,(by first | exact HN.out | exact HN.out.drew | exact below_drewN HN.out _),fun _=>HM.out⟩ | ((repeat apply Exists.intro);exact ⟨⟨q+1,false,by omega,rfl,by go_num,(by first | exact HN.out | exact HN.out.drew | exact below_drewN HN.out _),fun _=>HM.out⟩,rfl⟩)
                case measure=>simp [intOf];omega)
            ·have f1:(p.1 == ps)=false:=by simpa using e1
             have HM:=hid (HNN.out (fun h=>e1 h.1))
             clear e1
             go_wp2_with fail
             go_quiet (fail)
             go_wp2_with fail
             first
              | exact ⟨⟨q+1,false,by omega,rfl,by go_num,(by first | exact HN.out | exact HN.out.drew | exact below_drewN HN.out _),fun _=>HM.out⟩,by simp [intOf];omega⟩
              | (
               go_roundw
               case rel=>first | exact ⟨q+1,false,by omega,rfl,by go_num,(by first | exact HN.out | exact HN.out.drew | exact below_drewN HN.out _),fun _=>HM.out⟩ | ((repeat apply Exists.intro);exact ⟨⟨q+1,false,by omega,rfl,by go_num,(by first | exact HN.out | exact HN.out.drew | exact below_drewN HN.out _),fun _=>HM.out⟩,rfl⟩)
               case measure=>simp [intOf];omega)
          ·obtain rfl:q=m2:=by omega
           have hqd:decide ((q:Int) < (q:Int))=false:=by simp
           clear hqm
           go_wp2_with fail
           go_meet
           exact ⟨tw,rfl,HY.out⟩
        case rest=>
         obtain ⟨tw,rfl,HZ⟩:=hcut
         have HG:=hid (HE.out.below HZ.out.1)
         have k3:=(HG.out.cell 3).trans (show _=some (Value.slice a2 m2 c2) from rfl)
         have lc3:=HG.out.lt
         have lB:=Nat.lt_of_lt_of_le lX HZ.out.1.size
         have XR:=hid (show wc.rangeAt B 0 [(.int .i64 ps),(.int .i64 pl),(.int .i64 j),(.int .i64 (1+pr))] from fun i v hv=>by rw [cell_of_row _ _ (0+i) _ _ _ ((HZ.out.1.block _ lX).trans HX.out),Nat.zero_add,List.getElem?_toArray];exact hv)
         have OKX:=hid (show okQ 3 7 (ps,pl,(j:Int),1+pr) by unfold okQ;dsimp only;omega)
         clear k1 k2 x0 x1 x2 x3 lc
         cases tw with
         | true=>
          have HO:=hid (And.intro HG.out (And.intro HQL.out HQK.out.skip))
          clear HE HZ
          go_wp2_with fail
          first
           | exact ⟨⟨j+1,m2,a2,c2,Q,by omega,by omega,by go_num,hm2,HO.out⟩,by simp [intOf];omega⟩
           | (
            go_roundw
            case rel=>first | exact ⟨j+1,m2,a2,c2,Q,by omega,by omega,by go_num,hm2,HO.out⟩ | ((repeat apply Exists.intro);exact ⟨⟨j+1,m2,a2,c2,Q,by omega,by omega,by go_num,hm2,HO.out⟩,rfl⟩)
            case measure=>simp [intOf];omega)
         | false=>
          have NK:=hid (HQK.out.add (x:=(ps,pl,(j:Int),1+pr)) OKX.out (NoPl.imp_len (HZ.out.2 rfl).2 HQL.out) rfl)
          clear HE
          go_wp2_with (first
           | (with_reducible (show wpList _ _ _ (⟨_,.load 67 _,_,_,_,none⟩ :: _) _ _);go_must (refine wpList_load_mid rfl 67 _ rfl B 0 rfl _ _ XR.out Tryz.underlying67 rfl (by kernel_rfl) ?_))
           | (at_builtin;go_must (refine wpList_append_n _ rfl _ _ 30 rfl 67 i2 _ 4 32 Tryz.underlying30 hi2 hx0 hx1 hx2 rfl (by decide) (.slice a2 m2 c2) (Q.map qRow) rfl (HG.out.below ((Below.refl _ wc).alloc (Nat.le_refl _) _)).sL (some ⟨wc.heap.size,0,none⟩) 1 1 [qRow (ps,pl,(j:Int),1+pr)] rfl (inl_row (qRow (ps,pl,(j:Int),1+pr)) 67 rfl (q_oneK _)) (m2+1) (by rw [List.length_map,HQL.out];rfl) (by unfold maxLen;omega) (by omega) ?_);intro a3 c3 w3 G3;obtain ⟨u1,u2,H3⟩:=HG.out.addL ((Fr.refl (fun _=>False) wc).alloc _) G3;replace H3:=hid H3;clear G3))
          have HO:=hid (And.intro H3.out (And.intro (show (Q ++ [(ps,pl,(j:Int),1+pr)]).length=m2+1 by rw [List.length_append,HQL.out];rfl) NK.out))
          have m18:m2+1<=18:=by have:=NK.out.len;rw [HO.out.2.1] at this;exact this
          first
           | exact ⟨⟨j+1,m2+1,a3,c3,Q ++ [(ps,pl,(j:Int),1+pr)],by omega,by omega,by go_num,m18,HO.out⟩,by simp [intOf];omega⟩
           | (
            go_roundw
            case rel=>first | exact ⟨j+1,m2+1,a3,c3,Q ++ [(ps,pl,(j:Int),1+pr)],by omega,by omega,by go_num,m18,HO.out⟩ | ((repeat apply Exists.intro);exact ⟨⟨j+1,m2+1,a3,c3,Q ++ [(ps,pl,(j:Int),1+pr)],by omega,by omega,by go_num,m18,HO.out⟩,rfl⟩)
            case measure=>simp [intOf];omega)
      ·by_cases hjT:j < mL
       ·have h1:(j:Int) < (mL:Int):=by omega
        have h2:(8:Int)<=(j:Int):=by omega
        have HM:=hid (And.intro HD.out.1 (And.intro HD.out.2.1 (show ∃ j,LfOk j Q from ⟨j,HD.out.2.2⟩)))
        clear hjm
        go_wp2_with fail
        go_meet
        exact ⟨m2,a2,c2,Q,HM.out⟩
       ·obtain rfl:j=mL:=by omega
        clear hjT
        have HM:=hid (And.intro HD.out.1 (And.intro HD.out.2.1 (show ∃ j,LfOk j Q from ⟨j,HD.out.2.2⟩)))
        clear hjm
        go_wp2_with fail
        go_meet
        exact ⟨m2,a2,c2,Q,HM.out⟩
    case rest=>
     obtain ⟨ml,al,cl,QL,HD⟩:=hcut
     have hb:=HD.out.1.blk
     have hz:=(HD.out.1.bel.block (w.heap.size+1) (by have:=HP.out.2.2.1;omega)).trans HP.out.2.1
     have HBZ:=hid (And.intro hb hz)
     clear hb hz
     go_wp2_with (first
      | (with_reducible (show wpList _ _ _ (⟨_,.load 32 _,_,_,_,none⟩ :: _) _ _);go_must (refine wpList_load_row rfl 32 _ rfl (w.heap.size+1+1) (by simp [Act.eval]) 32 #[.int .i64 3,.slice a k c,.slice ap mp cp,.slice al ml cl] (0,0) _ HBZ.out.1 Tryz.underlying32 rfl (by kernel_rfl) ?_))
      | (with_reducible (show wpList _ _ _ (⟨_,.store 32 _ _,_,_,_,none⟩ :: _) _ _);go_must (refine wpList_store_row rfl 32 _ _ rfl (w.heap.size+1) #[.int .i64 3,.slice a k c,.slice ap mp cp,.slice al ml cl] (by simp [Act.eval,Act.put]) rfl 32 #[.int .i64 0,.slice none 0 0,.slice none 0 0,.slice none 0 0] HBZ.out.2 (by kernel_rfl) rfl (by simp [Value.oneCell']) ?_)))
     refine bodyPost_ret (results_cell_row Tryz.results26 _ _ (w.heap.size+1) 32 _ (0,0) _ rfl (setRow_heap wc (w.heap.size+1) _ #[.int .i64 3,.slice a k c,.slice ap mp cp,.slice al ml cl] 32 (0,0) HBZ.out.2) Tryz.underlying32 rfl (by kernel_rfl)) rfl ?_
     exact cfg_out HD.out.1 HP.out.2.2.1 HP.out.2.2.2 HT.out.1 HT.out.2.1 HT.out.2.2.1 HT.out.2.2.2 HC.out.2.1 HC.out.2.2 HD.out.2.1 HD.out.2.2
end Go.Proofs.YteejjgbeknnmeaaGreatDoor
