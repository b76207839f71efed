import Derived.Test.YteejjgbeknnmeaaGreatDoorI07
import Derived.Test.YteejjgbeknnmeaaGreatDoorI06
import Derived.Test.YteejjgbeknnmeaaGreatDoorI04
set_option maxRecDepth 100000
set_option maxHeartbeats 20000000
namespace Go.Proofs.YteejjgbeknnmeaaGreatDoor
open Go.RowKit
theorem does_sp {n:Nat}{c:Ac}{K:RM}:(doesM n c K).sp=K.sp:=by
 refine does_keeps (P:=fun G=>G.sp=K.sp) ?_ ?_ (fun p q v=>?_) (fun p b=>?_) (fun a b r=>?_) (fun a=>?_) (fun m=>?_)
 ·exact ((same_clo K.ticked).tick (b:=0) (K:=K) (Same.refl _)).sp
 ·exact ((same_clo K).yield (b:=0) (Same.refl K)).sp
 ·unfold RM.stored;split <;> rfl
 ·unfold RM.unmap;split
  ·rfl
  ·split
   ·split <;> rfl
   ·rfl
 ·unfold RM.derive;split
  ·rfl
  ·split
   ·split
    ·split <;> rfl
    ·rfl
   ·rfl
 ·unfold RM.drop;split
  ·rfl
  ·split
   ·split <;> rfl
   ·rfl
 ·exact ((same_clo K).ipc (b:=0) m (Same.refl K)).sp
theorem does_len {n:Nat}{c:Ac}{K:RM}:(doesM n c K).threads.length=K.threads.length:=by
 refine does_keeps (P:=fun G=>G.threads.length=K.threads.length) ?_ ?_ (fun p q v=>?_) (fun p b=>?_) (fun a b r=>?_) (fun a=>?_) (fun m=>?_)
 ·exact ((same_clo K.ticked).tick (b:=0) (K:=K) (Same.refl _)).len
 ·exact ((same_clo K).yield (b:=0) (Same.refl K)).len
 ·unfold RM.stored;split <;> rfl
 ·unfold RM.unmap;split
  ·rfl
  ·split
   ·split <;> rfl
   ·rfl
 ·unfold RM.derive;split
  ·rfl
  ·split
   ·split
    ·split <;> rfl
    ·rfl
   ·rfl
 ·unfold RM.drop;split
  ·rfl
  ·split
   ·split <;> rfl
   ·rfl
 ·exact ((same_clo K).ipc (b:=0) m (Same.refl K)).len
theorem unmap_same {K:RM}{pg:Int}{own:Bool}:(K.unmap pg own).2.threads=K.threads/\(K.unmap pg own).2.sp=K.sp:=by
 unfold RM.unmap
 split
 ·exact ⟨rfl,rfl⟩
 ·split
  ·split <;> exact ⟨rfl,rfl⟩
  ·exact ⟨rfl,rfl⟩
theorem AcOk.below {w w':World}{c:Ac}{s:Sv}(h:AcOk w c s) (hb:Below w.heap.size w w'):AcOk w' c s:=⟨h.b0,h.b1,h.b2,h.b3,h.b4,h.b5,h.wd.below (by omega) hb,h.ln,h.cp⟩
structure KA (Rep:World->Nat->(Nat->Prop)->RM->Prop) (WB w:World) (x:Nat) (T:List (Int×Int)) (Q L:List (Int×Int×Int×Int)) (K:RM) (n:Nat):Prop where
 ks:∃ S,KS Rep WB w x S K n
 bd:Bd T Q L K
 rv:Rv L K.leaves
 sp:K.sp=3
 ln:K.threads.length=T.length
section
variable {Rep:World->Nat->(Nat->Prop)->RM->Prop}(A:ApM Rep){WB w w':World}{x n:Nat}{T:List (Int×Int)}{Q L:List (Int×Int×Int×Int)}{K:RM}
theorem KA.bel (h:KA Rep WB w x T Q L K n):Below WB.heap.size WB w:=by obtain ⟨S,h⟩:=h.ks;exact h.bel
include A in
theorem KA.below (h:KA Rep WB w x T Q L K n) (hb:Below w.heap.size w w'):KA Rep WB w' x T Q L K n:=by
 obtain ⟨S,hs⟩:=h.ks
 exact ⟨⟨S,hs.below A hb⟩,h.bd,h.rv,h.sp,h.ln⟩
theorem ka_new {S:Nat->Prop}(h:KS Rep WB w x S (RK.new 3 T Q L).up 0) (hf:Fits 3 T Q L):KA Rep WB w x T Q L (RK.new 3 T Q L).up 0:=
 ⟨⟨S,h⟩,bd_new hf,rv_new,rfl,by simp [RK.up,RK.new,born_length]⟩
include A in
theorem ka_does (h:KA Rep WB w x T Q L K n) (hn:n<=1000000000000000) (c:Ac) (s:Sv) (ha:AcOk WB c s) (M:Nat) (hM:M<=6) :
  Calls Tryz.prog 27 #[.pointer (some ⟨x,0,none⟩),.agg (acA c s),.int .i64 M] w fun e w'=>e=.returned (.tuple #[])/\KA Rep WB w' x T Q L (doesM M c K) (n+1):=by
 obtain ⟨S,hs⟩:=h.ks
 exact (does_any A hs hn c s ha M hM).mono (by rintro e w' ⟨rfl,S',k,_⟩;exact ⟨rfl,⟨S',k⟩,h.bd.does _ _,rv_does h.rv _ _,by rw [does_sp];exact h.sp,by rw [does_len];exact h.ln⟩)
end
open Go.RowKit
abbrev ops12:List Oper:=
 [{ dst:=some 41,op:=Op.move (Operand.tmp 9),type:=35,pos:= "keeps.go:264",after:=#[],guard:=none },{ dst:=some 42,op:=Op.move (Operand.tmp 1),type:=59,pos:= "keeps.go:264",after:=#[],guard:=none },{ dst:=some 43,op:=Op.move (Operand.tmp 10),type:=3,pos:= "keeps.go:264",after:=#[],guard:=none },{ dst:=some 44,op:=Op.indexAddr 59 (Operand.tmp 42) (Operand.tmp 43),type:=0,pos:= "keeps.go:264",after:=#[{ on:=1,ground:=Ground.data },{ on:=2,ground:=Ground.data }],guard:=none },{ dst:=some 45,op:=Op.load 63 (Operand.tmp 44),type:=63,pos:= "keeps.go:264",after:=#[{ on:=3,ground:=Ground.data }],guard:=none },{ dst:=some 46,op:=Op.fieldAddr 32 (Operand.tmp 8) 1,type:=0,pos:= "keeps.go:264",after:=#[],guard:=none },{ dst:=some 47,op:=Op.load 28 (Operand.tmp 46),type:=28,pos:= "keeps.go:264",after:=#[{ on:=5,ground:=Ground.data }],guard:=none },{ dst:=some 48,op:=Op.call { callee:=Callee.builtin Builtin.len,args:=#[Operand.tmp 47],argTypes:=#[28] },type:=3,pos:= "keeps.go:264",after:=#[{ on:=6,ground:=Ground.data }],guard:=none },{ dst:=some 49,op:=Op.call { callee:=Callee.value (Operand.func 27),args:=#[Operand.tmp 41,Operand.tmp 45,Operand.tmp 48],argTypes:=#[35,63,3] },type:=0,pos:= "keeps.go:264",after:=#[{ on:=0,ground:=Ground.data },{ on:=4,ground:=Ground.data },{ on:=7,ground:=Ground.data }],guard:=none }]
theorem lex12:Region.lexTailB .any (ops12).toArray 8=true:=by kernel_rfl
section
variable {Rep:World->Nat->(Nat->Prop)->RM->Prop}(A:ApM Rep)
include A in
theorem revoked_any (PT PP PL:List Int) (aT aP aL:Option Addr) (mT cT mP cP mL cL:Nat) (ac:List (Ac×Sv)) (aA:Option Addr) (mA cA:Nat) (own:Bool) (w:World) (hg:Gl w) (iT:Inl w 1 (.slice aT mT cT) (PT.map lnI)) (iP:Inl w 1 (.slice aP mP cP) (PP.map lnI)) (iL:Inl w 1 (.slice aL mL cL) (PL.map lnI)) (lT:PT.length=mT) (lP:PP.length=mP) (lL:PL.length=mL) (bT:mT<=100000000000000) (bP:mP<=100000000000000) (bL:mL<=100000000000000)
  (rT:∀ z∈PT,-9223372036854775808<=z/\z<=9223372036854775807) (rP:∀ z∈PP,-9223372036854775808<=z/\z<=9223372036854775807) (rL:∀ z∈PL,-9223372036854775808<=z/\z<=9223372036854775807)
  (iA:Inl w 7 (.slice aA mA cA) (ac.map (fun p=>(acA p.1 p.2).toList))) (lA:ac.length=mA) (bA:mA<=100000000000000) (hA:∀ p∈ac,AcOk w p.1 p.2) :
  Calls Tryz.prog 12 #[.agg #[.slice aT mT cT,.slice aP mP cP,.slice aL mL cL],.slice aA mA cA,.bool own] w fun e w'=>e=.returned (.bool true)/\Below w.heap.size w w':=by
 have b0:Below w.heap.size w (w.alloc (.cells #[.slice aT mT cT,.slice aP mP cP,.slice aL mL cL] 58)):=(Below.refl _ w).alloc (Nat.le_refl _) _
 have C1:=hid (known_any A _ (hg.below b0))
 have HP0:=hid (heap_alloc_new w (.cells #[.slice aT mT cT,.slice aP mP cP,.slice aL mL cL] 58))
 have CF:=hid (fun (w1:World) (hb:Below w.heap.size w w1)=>config_false PT PP PL aT aP aL mT cT mP cP mL cL w1 (iT.below (by omega) hb) (iP.below (by omega) hb) (iL.below (by omega) hb) lT lP lL bT bP bL rT rP rL)
 have HA:=hid (And.intro iA (And.intro lA hA))
 have HG:=hid (And.intro hg b0)
 clear b0 iT iP iL lT lP lL rT rP rL iA lA hA hg bT bP bL
 go_enter Tryz.func12,Tryz.ntmps12
 go_wp2_with fail
 refine C1.out.mono ?_
 rintro e w1 ⟨rfl,B1⟩
 have b1:Below w.heap.size w w1:=HG.out.2.trans (B1.mono (by simp))
 have C2:=hid (CF.out w1 b1)
 have p1:w1.rangeAt w.heap.size 0 [.slice aT mT cT,.slice aP mP cP,.slice aL mL cL]:=fun j v hv=>by
  rw [cell_of_row _ _ (0+j) _ _ _ ((B1.block w.heap.size (by simp)).trans HP0.out),Nat.zero_add,List.getElem?_toArray];exact hv
 have HP1:=hid p1
 have HB1:=hid b1
 clear B1 b1 p1 CF HP0 C1
 go_wp2_with (with_reducible (show wpList _ _ _ (⟨_,.load 58 _,_,_,_,none⟩ :: _) _ _);go_must (refine wpList_load_mid rfl 58 _ rfl w.heap.size 0 rfl _ _ HP1.out Tryz.underlying58 rfl (by kernel_rfl) ?_))
 refine C2.out.mono ?_
 rintro e w2 ⟨T,Q,L,a1,a2,a3,c1,c2,c3,rfl,j1,j2,j3,B2,hf,hfr,_⟩
 obtain ⟨n1,hn1⟩:∃ n1,T.length=n1:=⟨_,rfl⟩
 obtain ⟨n2,hn2⟩:∃ n2,Q.length=n2:=⟨_,rfl⟩
 obtain ⟨n3,hn3⟩:∃ n3,L.length=n3:=⟨_,rfl⟩
 rw [hn1] at j1 ⊢
 rw [hn2] at j2 ⊢
 rw [hn3] at j3 ⊢
 have n16:n1<=6:=by rw [<- hn1];exact hf.2.1.2
 have n18:n3<=18:=by rw [<- hn3];exact q18 (sp:=3) (by omega) hf.2.2.2.2.2.1 hf.2.2.2.2.2.2
 have bB:Below w2.heap.size w2 (w2.alloc (.cells #[.int .i64 3,.slice a1 n1 c1,.slice a2 n2 c2,.slice a3 n3 c3] 32)):=(Below.refl _ w2).alloc (Nat.le_refl _) _
 have hCB:=heap_alloc_new w2 (.cells #[.int .i64 3,.slice a1 n1 c1,.slice a2 n2 c2,.slice a3 n3 c3] 32)
 have b2:Below w.heap.size w w2:=HB1.out.trans (B2.mono HB1.out.size)
 obtain ⟨WB,hWB⟩:∃ WB,w2.alloc (.cells #[.int .i64 3,.slice a1 n1 c1,.slice a2 n2 c2,.slice a3 n3 c3] 32)=WB:=⟨_,rfl⟩
 have lCB:w2.heap.size < WB.heap.size:=by rw [<- hWB];simp
 rw [hWB] at bB hCB
 have bW:Below w.heap.size w WB:=b2.trans (bB.mono b2.size)
 have C3:=hid (boot_any A 3 a1 a2 a3 n1 n2 n3 c1 c2 c3 T Q L WB (HG.out.1.below bW) (j1.below (by omega) bB) (j2.below (by omega) bB) (j3.below (by omega) bB) hf 0)
 have HC:=hid (And.intro hCB (And.intro (j1.below (by omega) bB) (j3.below (by omega) bB)))
 have HF:=hid (And.intro hf (And.intro hfr (And.intro hn1 hn3)))
 have HI:=hid (And.intro (HA.out.1.below (by omega) bW) (And.intro HA.out.2.1 (And.intro (fun p hp=>(HA.out.2.2 p hp).below bW) bW)))
 have HWB:=hid hWB
 obtain ⟨cb,hcb⟩:∃ cb,w2.heap.size=cb:=⟨_,rfl⟩
 have RC:=hid (show WB.rangeAt w2.heap.size 0 [.int .i64 3,.slice a1 n1 c1,.slice a2 n2 c2,.slice a3 n3 c3] from fun j v hv=>by rw [cell_of_row _ _ (0+j) _ _ _ hCB,Nat.zero_add,List.getElem?_toArray];exact hv)
 have Hcb:=hid hcb
 clear bB hCB b2 hWB bW j1 j2 j3 B2 hf hfr hn1 hn2 hn3 C2 HP1 HB1 HA HG hcb
 go_wp2_with (first
  | (with_reducible (show wpList _ _ _ (⟨_,.store 32 _ _,_,_,_,none⟩ :: _) _ _);go_must (refine wpList_store_new rfl 32 _ _ rfl w2 _ #[.int .i64 3,.slice a1 n1 c1,.slice a2 n2 c2,.slice a3 n3 c3] 32 (by simp [Act.eval]) rfl (by kernel_rfl) rfl (by simp [Value.oneCell']) ?_);rw [HWB.out])
  | (with_reducible (show wpList _ _ _ (⟨_,.load 32 _,_,_,_,none⟩ :: _) _ _);go_must (refine wpList_load_mid rfl 32 _ rfl w2.heap.size 0 rfl _ _ RC.out Tryz.underlying32 rfl (by kernel_rfl) ?_)))
 refine C3.out.mono ?_
 rintro e w3 ⟨x,S3,rfl,K3,B3⟩
 have K3':=hid (ka_new K3 HF.out.1)
 rw [Hcb.out] at HC lCB ⊢
 clear K3 B3 C3 HWB RC Hcb
 go_upto_block 0 with fail
 go_cut [10] from 31 to 49 (fun v wx=>∃ (K:RM) (n:Nat),n<=60/\Hid (KA Rep WB wx x T Q L K n))
 case first=>
  go_wp2_with fail
  go_loopw [10] (fun i wr=>∃ (j:Nat) (K:RM),j<=60/\j<=mA/\i=.int .i64 j/\Hid (KA Rep WB wr x T Q L K j)) (fun i _=>60-(intOf i).toNat)
  case atStart=>exact ⟨0,_,by omega,by omega,rfl,K3'.out⟩
  case round=>
   clear K3'
   obtain ⟨j,K,hj6,hjA,rfl,HK⟩:=hrel
   have bel:=HK.out.bel
   have v1:=(plan_cell bel HC.out.1 lCB 1).trans (show _=some (Value.slice a1 n1 c1) from rfl)
   have lcb:=block_lt_of_cell v1
   by_cases h6:j < 60/\j < mA
   ·have h61:(j:Int) < 60:=by omega
    have h6A:(j:Int) < (mA:Int):=by omega
    obtain ⟨p,hp⟩:∃ p,ac[j]? = some p:=⟨_,List.getElem?_eq_getElem (by have:=HI.out.2.1;omega)⟩
    obtain ⟨bl,ol,ea,rr⟩:=(HI.out.1.below (by omega) bel).row (k:=j) (r:=(acA p.1 p.2).toList) (by rw [List.getElem?_map,hp];rfl)
    subst ea
    have gg0:wr.cell? ⟨bl,ol+j*7,none⟩=some (.int .i64 p.1.kd):=rr 0 _ rfl
    have gg1:wr.cell? ⟨bl,ol+j*7+1,none⟩=some (.int .i64 p.1.A):=rr 1 _ rfl
    have gg2:wr.cell? ⟨bl,ol+j*7+2,none⟩=some (.int .i64 p.1.B):=rr 2 _ rfl
    have gg3:wr.cell? ⟨bl,ol+j*7+3,none⟩=some (.int .i64 p.1.C):=rr 3 _ rfl
    have gg4:wr.cell? ⟨bl,ol+j*7+4,none⟩=some (.int .i64 p.1.D):=rr 4 _ rfl
    have gg5:wr.cell? ⟨bl,ol+j*7+5,none⟩=some (.int .i64 p.1.E):=rr 5 _ rfl
    have gg6:wr.cell? ⟨bl,ol+j*7+6,none⟩=some (.slice p.2.a p.2.n p.2.c):=rr 6 _ rfl
    have CD:=hid (ka_does A (HK.out.below A (Below.refl _ wr).drew) (by omega) p.1 p.2 (HI.out.2.2.1 p (List.mem_of_getElem? hp)) n1 n16)
    have h6m:=hid h6
    clear hp rr HK h6 bel
    go_wp2_with fail
    refine wp_region_still_tail (l:=ops12) 8 mxk lex12 ?_
    simp only [List.take_succ_cons,List.take_zero,List.drop_succ_cons,List.drop_zero]
    still_step
    still_step
    still_step
    still_step
    still_step
    still_step
    still_step
    still_step
    refine wpStill_nil ?_
    go_wp2_with (go_at_call 27;refine CD.out.mono ?_;rintro e w5 ⟨rfl,K5⟩;replace K5:=hid K5)
    first
     | exact ⟨⟨j+1,_,by have:=h6m.out;omega,by have:=h6m.out;omega,by go_num,K5.out⟩,by simp [intOf];omega⟩
     | (
      go_roundw
      case rel=>first | exact ⟨j+1,_,by have:=h6m.out;omega,by have:=h6m.out;omega,by go_num,K5.out⟩ | ((repeat apply Exists.intro);exact ⟨⟨j+1,_,by have:=h6m.out;omega,by have:=h6m.out;omega,by go_num,K5.out⟩,rfl⟩)
      case measure=>simp [intOf];omega)
   ·by_cases hT:j < mA
    ·have h1:(j:Int) < (mA:Int):=by omega
     have h2:(60:Int)<=(j:Int):=by omega
     have HM:=hid HK.out
     clear h6 HK bel
     go_wp2_with fail
     go_meet
     exact ⟨K,j,hj6,HM.out⟩
    ·obtain rfl:j=mA:=by omega
     have HM:=hid HK.out
     clear h6 HK hT bel
     go_wp2_with fail
     go_meet
     exact ⟨K,_,hj6,HM.out⟩
 case rest=>
  clear K3'
  obtain ⟨K,n,hn60,HK⟩:=hcut
  obtain ⟨S,hS⟩:=HK.out.ks
  have CC:=hid (ks_current A hS)
  have HKA:=hid HK.out
  clear hS HK
  go_wp2_with fail
  refine CC.out.mono ?_
  rintro e w5 ⟨rfl,B5,K5⟩
  have HK5:=hid (HKA.out.below A B5)
  have hbw:=hid (HI.out.2.2.2.trans (HK5.out.bel.mono HI.out.2.2.2.size))
  clear B5 K5 HKA CC
  by_cases hc:K.cur < 0
  ·have hbe:=hid hbw.out
   clear HK5 hbw
   obtain ⟨t,ht⟩:∃ t,K.cur=t:=⟨_,rfl⟩
   rw [ht] at hc ⊢
   clear ht
   go_wp2_with fail
   go_ret
   exact ⟨rfl,hbe.out⟩
  obtain ⟨t,u,ec,hu,_⟩:=K.cur_in hc
  obtain ⟨p,hp,esp,_⟩:=HK5.out.bd.pl t u hu
  have tn:t < n1:=by have:=(List.getElem?_eq_some_iff.1 hp).1;rw [HF.out.2.2.1] at this;exact this
  have tn':(t:Int) < (n1:Int):=by omega
  have bel:=HK5.out.bel
  have v1:=(plan_cell bel HC.out.1 lCB 1).trans (show _=some (Value.slice a1 n1 c1) from rfl)
  obtain ⟨bt,ot,ea,rt⟩:=(HC.out.2.1.below (by omega) bel).row (k:=t) (r:=tRow p) (by rw [List.getElem?_map,hp];rfl)
  subst ea
  have ct:w5.cell? ⟨bt,ot+t*2,none⟩=some (.int .i64 p.1):=rt 0 _ rfl
  have lbt:=block_lt_of_cell ct
  have lcb:=block_lt_of_cell v1
  have HH:=hid (show ∀ K2:RM,K2.threads=K.threads->¬ K2.cur < 0/\K2.home=p.1 from fun K2 h=>by
   have e2:K2.cur=t:=by rw [<- ec];unfold RM.cur;rw [h]
   refine ⟨by omega,?_⟩
   unfold RM.home
   rw [e2,h,Int.toNat_natCast,hu]
   exact esp)
  rw [ec]
  have HU:=hid (And.intro hp hu)
  clear ec hu hp rt esp hc bel tn
  go_upto_block 2 with fail
  go_wp2_with fail
  go_loopw [13] (fun i wr=>∃ (q:Nat) (K2:RM) (m:Nat),q<=n3/\m<=60+q/\i=.int .i64 q/\Hid (KA Rep WB wr x T Q L K2 m/\K2.threads=K.threads)) (fun i _=>n3-(intOf i).toNat)
  case atStart=>exact ⟨0,K,n,Nat.zero_le _,by omega,rfl,HK5.out,rfl⟩
  case round=>
   clear HK5 v1 lcb ct lbt
   obtain ⟨q,K2,m,hq,hm,rfl,HD⟩:=hrel
   have bel:=HD.out.1.bel
   have v3:=(plan_cell bel HC.out.1 lCB 3).trans (show _=some (Value.slice a3 n3 c3) from rfl)
   have lcb:=block_lt_of_cell v3
   by_cases hqn:q < n3
   ·have hqn':(q:Int) < (n3:Int):=by omega
    obtain ⟨l,hl⟩:∃ l,L[q]? = some l:=⟨_,List.getElem?_eq_getElem (by have:=HF.out.2.2.2;omega)⟩
    obtain ⟨bt3,ot3,ea,rl⟩:=(HC.out.2.2.below (by omega) bel).row (k:=q) (r:=qRow l) (by rw [List.getElem?_map,hl];rfl)
    subst ea
    have RL:=hid (show wr.rangeAt bt3 (ot3+q*4) [.int .i64 l.1,.int .i64 l.2.1,.int .i64 l.2.2.1,.int .i64 l.2.2.2] from rl)
    have lb3:=block_lt_of_cell (rl 0 (.int .i64 l.1) rfl)
    have bX:Below wr.heap.size wr (wr.alloc (.cells #[.int .i64 l.1,.int .i64 l.2.1,.int .i64 l.2.2.1,.int .i64 l.2.2.2] 67)):=(Below.refl _ wr).alloc (Nat.le_refl _) _
    have hX:=heap_alloc_new wr (.cells #[.int .i64 l.1,.int .i64 l.2.1,.int .i64 l.2.2.1,.int .i64 l.2.2.2] 67)
    have HL:=hid hl
    obtain ⟨WX,hWX⟩:∃ WX,wr.alloc (.cells #[.int .i64 l.1,.int .i64 l.2.1,.int .i64 l.2.2.1,.int .i64 l.2.2.2] 67)=WX:=⟨_,rfl⟩
    rw [hWX] at bX hX
    have HWX:=hid hWX
    have HDX:=hid (show (KA Rep WB WX x T Q L K2 m/\K2.threads=K.threads)/\∃ S,KS Rep WB WX x S K2 m/\¬ S wr.heap.size from ⟨⟨HD.out.1.below A bX,HD.out.2⟩,by
     obtain ⟨S,hS⟩:=HD.out.1.ks
     exact ⟨S,hS.below A bX,fun h=>by have:=hS.lt A _ h;omega⟩⟩)
    have lX:wr.heap.size < WX.heap.size:=by rw [<- hWX];simp
    have RX:=hid (show WX.rangeAt wr.heap.size 0 [.int .i64 l.1,.int .i64 l.2.1,.int .i64 l.2.2.1,.int .i64 l.2.2.2] from fun j v hv=>by rw [cell_of_row _ _ (0+j) _ _ _ hX,Nat.zero_add,List.getElem?_toArray];exact hv)
    have HX:=hid hX
    have y0:=(cell_of_row WX _ 0 _ _ _ hX).trans (show _=some (Value.int .i64 l.1) from rfl)
    clear rl hl bX hX hWX HD bel
    go_upto_region 17 with fail
    go_cut [14] from 67 to 71 (fun v wx=>v=.pointer (some ⟨wr.heap.size,0,none⟩)/\wx=WX)
    case first=>
     go_wp2_with (first
      | (with_reducible (show wpList _ _ _ (⟨_,.load 67 _,_,_,_,none⟩ :: _) _ _);go_must (refine wpList_load_mid rfl 67 _ rfl bt3 (ot3+q*4) rfl _ _ RL.out Tryz.underlying67 rfl (by kernel_rfl) ?_))
      | (with_reducible (show wpList _ _ _ (⟨_,.store 67 _ _,_,_,_,none⟩ :: _) _ _);go_must (refine wpList_store_new rfl 67 _ _ rfl wr _ #[.int .i64 l.1,.int .i64 l.2.1,.int .i64 l.2.2.1,.int .i64 l.2.2.2] 67 (by simp [Act.eval]) rfl (by kernel_rfl) rfl (by simp [Value.oneCell']) ?_);rw [HWX.out]))
     go_meet
     exact ⟨rfl,rfl⟩
    case rest=>
     obtain ⟨rfl,hwc⟩:=hcut
     have hwc:=hwc.symm
     subst hwc
     by_cases hsp:l.1=p.1
     ·have f0:(l.1 == p.1)=true:=by simpa using hsp
      have f0':(l.1 != p.1)=false:=by simpa using hsp
      have HSP:=hid hsp
      clear hsp
      obtain ⟨S,hS,nB0⟩:=HDX.out.2
      replace HDX:=hid HDX.out.1
      have CC:=hid (count_any A hS HDX.out.1.sp l)
      have NB:=hid nB0
      clear nB0
      have HS:=hid hS
      clear hS
      go_wp2_with (with_reducible (show wpList _ _ _ (⟨_,.load 67 _,_,_,_,none⟩ :: _) _ _);go_must (refine wpList_load_mid rfl 67 _ rfl wr.heap.size 0 rfl _ _ RX.out Tryz.underlying67 rfl (by kernel_rfl) ?_))
      refine CC.out.mono ?_
      rintro e w8 ⟨b,rfl,hb,B8,K8⟩
      have okl:=HF.out.1.2.2.2.2.2.1 q l HL.out
      have mem:=List.mem_of_getElem? HL.out
      cases b with
      | false=>
       have hz:=rv_no HDX.out.1.rv HS.out.ok.ft.ap HS.out.ok.ft.kin HF.out.2.1 mem (fun h=>by cases hb.2 h)
       rw [hz]
       have HN:=hid (And.intro (HDX.out.1.below A B8) HDX.out.2)
       clear hz hb B8 K8 okl mem HDX HS CC
       go_wp2_with fail
       first
        | exact ⟨⟨q+1,K2,m,by omega,by omega,by go_num,HN.out⟩,by simp [intOf];omega⟩
        | (
         go_roundw
         case rel=>first | exact ⟨q+1,K2,m,by omega,by omega,by go_num,HN.out⟩ | ((repeat apply Exists.intro);exact ⟨⟨q+1,K2,m,by omega,by omega,by go_num,HN.out⟩,rfl⟩)
         case measure=>simp [intOf];omega)
      | true=>
       have hh:=HH.out K2 HDX.out.2
       have tk:=rv_taken HDX.out.1.rv HS.out.ok.ft.ap HS.out.ok.ft.kin HS.out.ok.ft.lf HDX.out.1.sp HF.out.2.1 mem okl.1 ⟨okl.2.2.1,okl.2.2.2.1⟩ (by have:=hh.1;omega) (hh.2.trans HSP.out.symm) (hb.1 rfl) own
       have CU:=hid (ks_unmap A K8 l.2.1 own)
       have y1:=(cell_of_row w8 _ 1 _ _ _ ((B8.block _ lX).trans HX.out)).trans (show _=some (Value.int .i64 l.2.1) from rfl)
       have ly:=block_lt_of_cell y1
       have HT:=hid tk
       have HB8:=hid (And.intro B8 K8)
       clear hb B8 K8 okl mem hh tk CC
       obtain ⟨cn,hcn⟩:∃ cn,cntM K2 l.2.2.1=cn:=⟨_,rfl⟩
       rw [hcn]
       clear hcn
       go_wp2_with fail
       refine CU.out.mono ?_
       rintro e w9 ⟨rfl,S9,K9,nS9,F9⟩
       rw [HT.out.1]
       have nB:¬ S wr.heap.size:=NB.out
       have q9:=(F9.block wr.heap.size ly nB).trans ((HB8.out.1.block _ lX).trans HX.out)
       have R9:=hid (show w9.rangeAt wr.heap.size 0 [.int .i64 l.1,.int .i64 l.2.1,.int .i64 l.2.2.1,.int .i64 l.2.2.2] from fun j v hv=>by rw [cell_of_row _ _ (0+j) _ _ _ q9,Nat.zero_add,List.getElem?_toArray];exact hv)
       have us:=unmap_same (K:=K2) (pg:=l.2.1) (own:=own)
       have CN:=hid (count_any A K9 (us.2.trans HDX.out.1.sp) l)
       have H9:=hid (show KA Rep WB w9 x T Q L (K2.unmap l.2.1 own).2 (m+1) from ⟨⟨S9,K9⟩,HDX.out.1.bd.unmap _ _,rv_unmap HDX.out.1.rv _ _,us.2.trans HDX.out.1.sp,by rw [us.1];exact HDX.out.1.ln⟩)
       have HTT:=hid (us.1.trans HDX.out.2)
       clear K9 nS9 F9 nB q9 us CU HB8 HDX HS y1 ly
       go_wp2_with (with_reducible (show wpList _ _ _ (⟨_,.load 67 _,_,_,_,none⟩ :: _) _ _);go_must (refine wpList_load_mid rfl 67 _ rfl wr.heap.size 0 rfl _ _ R9.out Tryz.underlying67 rfl (by kernel_rfl) ?_))
       refine CN.out.mono ?_
       rintro e w10 ⟨b2,rfl,hb2,B10,K10⟩
       have HN:=hid (And.intro (H9.out.below A B10) HTT.out)
       clear B10 K10 CN
       cases own with
       | true=>
        rw [HT.out.2.1 rfl]
        clear HT hb2 H9 HTT
        go_wp2_with fail
        first
         | exact ⟨⟨q+1,_,m+1,by omega,by omega,by go_num,HN.out⟩,by simp [intOf];omega⟩
         | (
          go_roundw
          case rel=>first | exact ⟨q+1,_,m+1,by omega,by omega,by go_num,HN.out⟩ | ((repeat apply Exists.intro);exact ⟨⟨q+1,_,m+1,by omega,by omega,by go_num,HN.out⟩,rfl⟩)
          case measure=>simp [intOf];omega)
       | false=>
        obtain ⟨t1,t2⟩:=HT.out.2.2 rfl
        rw [t1]
        have eb:b2=true:=hb2.2 t2
        subst eb
        clear HT hb2 H9 HTT t1 t2
        go_wp2_with fail
        first
         | exact ⟨⟨q+1,_,m+1,by omega,by omega,by go_num,HN.out⟩,by simp [intOf];omega⟩
         | (
          go_roundw
          case rel=>first | exact ⟨q+1,_,m+1,by omega,by omega,by go_num,HN.out⟩ | ((repeat apply Exists.intro);exact ⟨⟨q+1,_,m+1,by omega,by omega,by go_num,HN.out⟩,rfl⟩)
          case measure=>simp [intOf];omega)
     ·have f0:(l.1 == p.1)=false:=by simpa using hsp
      have f0':(l.1 != p.1)=true:=by simpa using hsp
      have HN:=hid HDX.out.1
      clear hsp HDX
      go_wp2_with fail
      first
       | exact ⟨⟨q+1,K2,m,by omega,by omega,by go_num,HN.out⟩,by simp [intOf];omega⟩
       | (
        go_roundw
        case rel=>first | exact ⟨q+1,K2,m,by omega,by omega,by go_num,HN.out⟩ | ((repeat apply Exists.intro);exact ⟨⟨q+1,K2,m,by omega,by omega,by go_num,HN.out⟩,rfl⟩)
        case measure=>simp [intOf];omega)
   ·obtain rfl:q=n3:=by omega
    have HN:=hid HD.out.1
    clear HD hqn bel
    go_wp2_with fail
    go_ret
    exact ⟨rfl,HI.out.2.2.2.trans (HN.out.bel.mono HI.out.2.2.2.size)⟩
end
open Go.RowKit
abbrev ops28a:List Oper:=
 [{ dst:=some 60,op:=Op.load 32 (Operand.tmp 3),type:=32,pos:= "keeps.go:209",after:=#[],guard:=none },{ dst:=some 61,op:=Op.fieldAddr 32 (Operand.tmp 3) 1,type:=0,pos:= "keeps.go:209",after:=#[],guard:=none },{ dst:=some 62,op:=Op.load 28 (Operand.tmp 61),type:=28,pos:= "keeps.go:209",after:=#[{ on:=1,ground:=Ground.data }],guard:=none },{ dst:=some 63,op:=Op.fieldAddr 50 (Operand.tmp 8) 2,type:=0,pos:= "keeps.go:209",after:=#[],guard:=none },{ dst:=some 64,op:=Op.load 3 (Operand.tmp 63),type:=3,pos:= "keeps.go:209",after:=#[{ on:=3,ground:=Ground.data }],guard:=none },{ dst:=some 65,op:=Op.indexAddr 28 (Operand.tmp 62) (Operand.tmp 64),type:=0,pos:= "keeps.go:209",after:=#[{ on:=2,ground:=Ground.data },{ on:=4,ground:=Ground.data }],guard:=none },{ dst:=some 66,op:=Op.fieldAddr 34 (Operand.tmp 65) 0,type:=0,pos:= "keeps.go:209",after:=#[{ on:=5,ground:=Ground.data }],guard:=none },{ dst:=some 67,op:=Op.load 3 (Operand.tmp 66),type:=3,pos:= "keeps.go:209",after:=#[{ on:=6,ground:=Ground.data }],guard:=none },{ dst:=some 68,op:=Op.move (Operand.tmp 7),type:=3,pos:= "keeps.go:209",after:=#[],guard:=none },{ dst:=some 69,op:=Op.call { callee:=Callee.value (Operand.func 51),args:=#[Operand.tmp 60,Operand.tmp 67,Operand.tmp 68,Operand.const (Value.int IntKind.i64 1)],argTypes:=#[32,3,3,3] },type:=4,pos:= "keeps.go:209",after:=#[{ on:=0,ground:=Ground.data },{ on:=7,ground:=Ground.data },{ on:=8,ground:=Ground.data }],guard:=none },{ dst:=some 10,op:=Op.assign (Operand.tmp 69),type:=4,pos:= "keeps.go:209",after:=#[{ on:=9,ground:=Ground.data },{ on:=9,ground:=Ground.chain },{ on:=0,ground:=Ground.phase },{ on:=1,ground:=Ground.phase },{ on:=2,ground:=Ground.phase },{ on:=3,ground:=Ground.phase },{ on:=4,ground:=Ground.phase },{ on:=5,ground:=Ground.phase },{ on:=6,ground:=Ground.phase },{ on:=7,ground:=Ground.phase },{ on:=8,ground:=Ground.phase },{ on:=9,ground:=Ground.phase }],guard:=none }]
theorem lex28a:Region.lexTailB .any (ops28a).toArray 9=true:=by kernel_rfl
abbrev ops28b:List Oper:=
 [{ dst:=some 112,op:=Op.load 32 (Operand.tmp 3),type:=32,pos:= "keeps.go:224",after:=#[],guard:=none },{ dst:=some 113,op:=Op.move (Operand.tmp 11),type:=3,pos:= "keeps.go:224",after:=#[],guard:=none },{ dst:=some 114,op:=Op.fieldAddr 122 (Operand.tmp 12) 0,type:=0,pos:= "keeps.go:224",after:=#[],guard:=none },{ dst:=some 115,op:=Op.load 29 (Operand.tmp 114),type:=29,pos:= "keeps.go:224",after:=#[{ on:=2,ground:=Ground.data }],guard:=none },{ dst:=some 116,op:=Op.move (Operand.tmp 14),type:=3,pos:= "keeps.go:224",after:=#[],guard:=none },{ dst:=some 117,op:=Op.indexAddr 29 (Operand.tmp 115) (Operand.tmp 116),type:=0,pos:= "keeps.go:224",after:=#[{ on:=3,ground:=Ground.data },{ on:=4,ground:=Ground.data }],guard:=none },{ dst:=some 118,op:=Op.fieldAddr 55 (Operand.tmp 117) 2,type:=0,pos:= "keeps.go:224",after:=#[{ on:=5,ground:=Ground.data }],guard:=none },{ dst:=some 119,op:=Op.load 3 (Operand.tmp 118),type:=3,pos:= "keeps.go:224",after:=#[{ on:=6,ground:=Ground.data }],guard:=none },{ dst:=some 120,op:=Op.fieldAddr 122 (Operand.tmp 12) 0,type:=0,pos:= "keeps.go:224",after:=#[],guard:=none },{ dst:=some 121,op:=Op.load 29 (Operand.tmp 120),type:=29,pos:= "keeps.go:224",after:=#[{ on:=8,ground:=Ground.data }],guard:=none },{ dst:=some 122,op:=Op.move (Operand.tmp 14),type:=3,pos:= "keeps.go:224",after:=#[],guard:=none },{ dst:=some 123,op:=Op.indexAddr 29 (Operand.tmp 121) (Operand.tmp 122),type:=0,pos:= "keeps.go:224",after:=#[{ on:=9,ground:=Ground.data },{ on:=10,ground:=Ground.data }],guard:=none },{ dst:=some 124,op:=Op.fieldAddr 55 (Operand.tmp 123) 3,type:=0,pos:= "keeps.go:224",after:=#[{ on:=11,ground:=Ground.data }],guard:=none },{ dst:=some 125,op:=Op.load 3 (Operand.tmp 124),type:=3,pos:= "keeps.go:224",after:=#[{ on:=12,ground:=Ground.data }],guard:=none },{ dst:=some 126,op:=Op.call { callee:=Callee.value (Operand.func 51),args:=#[Operand.tmp 112,Operand.tmp 113,Operand.tmp 119,Operand.tmp 125],argTypes:=#[32,3,3,3] },type:=4,pos:= "keeps.go:224",after:=#[{ on:=0,ground:=Ground.data },{ on:=1,ground:=Ground.data },{ on:=7,ground:=Ground.data },{ on:=13,ground:=Ground.data }],guard:=none },{ dst:=some 15,op:=Op.assign (Operand.tmp 126),type:=4,pos:= "keeps.go:224",after:=#[{ on:=14,ground:=Ground.data },{ on:=14,ground:=Ground.chain },{ on:=0,ground:=Ground.phase },{ on:=1,ground:=Ground.phase },{ on:=2,ground:=Ground.phase },{ on:=3,ground:=Ground.phase },{ on:=4,ground:=Ground.phase },{ on:=5,ground:=Ground.phase },{ on:=6,ground:=Ground.phase },{ on:=7,ground:=Ground.phase },{ on:=8,ground:=Ground.phase },{ on:=9,ground:=Ground.phase },{ on:=10,ground:=Ground.phase },{ on:=11,ground:=Ground.phase },{ on:=12,ground:=Ground.phase },{ on:=13,ground:=Ground.phase },{ on:=14,ground:=Ground.phase }],guard:=none }]
theorem lex28b:Region.lexTailB .any (ops28b).toArray 14=true:=by kernel_rfl
section
variable {Rep:World->Nat->(Nat->Prop)->RM->Prop}(A:ApM Rep)
include A in
theorem rules_any {WB w:World}{x n:Nat}{S:Nat->Prop}{K:RM}{T:List (Int×Int)}{Q L:List (Int×Int×Int×Int)}(h:KS Rep WB w x S K n) (hbd:Bd T Q L K) (h3:K.sp=3) (hln:K.threads.length=T.length) (hfr:FrAp L) (a1 a2 a3:Option Addr) (n1 n2 n3 c1 c2 c3:Nat)
  (jT:Inl w 2 (.slice a1 n1 c1) (T.map tRow)) (jQ:Inl w 4 (.slice a2 n2 c2) (Q.map qRow)) (jL:Inl w 4 (.slice a3 n3 c3) (L.map qRow)) (lT:T.length=n1) (lQ:Q.length=n2) (lL:L.length=n3) (bT:n1<=6) (bQ:n2<=18) (bL:n3<=18) :
  Calls Tryz.prog 28 #[.pointer (some ⟨x,0,none⟩),.agg #[.int .i64 3,.slice a1 n1 c1,.slice a2 n2 c2,.slice a3 n3 c3]] w fun e w'=>e=.returned (.bool true)/\Below w.heap.size w w'/\KS Rep WB w' x S K n:=by
 have hb:Below w.heap.size w (w.alloc (.cells #[.int .i64 3,.slice a1 n1 c1,.slice a2 n2 c2,.slice a3 n3 c3] 32)):=(Below.refl _ w).alloc (Nat.le_refl _) _
 have HB:=hid hb
 have HK:=hid (h.below A hb)
 have hC0:=heap_alloc_new w (.cells #[.int .i64 3,.slice a1 n1 c1,.slice a2 n2 c2,.slice a3 n3 c3] 32)
 have HT0:=hid (And.intro (jT.below (by omega) hb) (And.intro (jQ.below (by omega) hb) (And.intro (jL.below (by omega) hb) (And.intro lT (And.intro lQ lL)))))
 obtain ⟨W1,hW1⟩:∃ W1,w.alloc (.cells #[.int .i64 3,.slice a1 n1 c1,.slice a2 n2 c2,.slice a3 n3 c3] 32)=W1:=⟨_,rfl⟩
 rw [hW1] at HB HK hC0 HT0
 have l1:w.heap.size < W1.heap.size:=by rw [<- hW1];simp
 have HT:=HT0
 have bd:=hid hbd
 have HC:=hid hC0
 have HW1:=hid hW1
 have ft:=h.ok.ft
 have HO:=hid (And.intro h3 (And.intro (hln.trans lT) (And.intro hfr (And.intro (show ∀ (i:Nat) (u:Th),K.threads[i]? = some u->0<=u.row/\u.row<=3 from fun i u hu=>⟨(ft.th i u hu).r0,(ft.th i u hu).r1⟩) (show K.threads.length<=6 from ft.six)))))
 have C1:=hid (ks_current A HK.out)
 clear hb hC0 h hW1 jT jQ jL lT lQ lL h3 hln hfr hbd HT0 ft
 go_enter Tryz.func28,Tryz.ntmps28
 go_wp2_with fail
 rw [HW1.out]
 refine C1.out.mono ?_
 rintro e w2 ⟨rfl,B2,K2⟩
 obtain ⟨cu,hcu⟩:∃ cu,K.cur=cu:=⟨_,rfl⟩
 rw [hcu]
 have HCU:=hid hcu
 have HK2:=hid (And.intro K2 B2)
 clear hcu B2 K2 C1 HK HW1
 go_upto_block 0 with fail
 go_cut [6,7] from 21 to 71 (fun v6 v7 wx=>v6=.int .i64 (hiM K.threads n1)/\Hid (KS Rep WB wx x S K n/\Below W1.heap.size W1 wx))
 case first=>
  go_wp2_with fail
  go_loopw [6,7] (fun v6 v7 wr=>∃ t:Nat,t<=n1/\v6=.int .i64 (hiM K.threads t)/\v7=.int .i64 t/\Hid (KS Rep WB wr x S K n/\Below W1.heap.size W1 wr)) (fun _ v7 _=>n1-(intOf v7).toNat)
  case atStart=>exact ⟨0,Nat.zero_le _,rfl,rfl,HK2.out⟩
  case round=>
   clear HK2
   obtain ⟨t,ht,rfl,rfl,HD⟩:=hrel
   have v1:=(plan_cell HD.out.2 HC.out l1 1).trans (show _=some (Value.slice a1 n1 c1) from rfl)
   have l3:=block_lt_of_cell v1
   by_cases htn:t < n1
   ·have htn':(t:Int) < (n1:Int):=by omega
    obtain ⟨u,hu⟩:∃ u,K.threads[t]? = some u:=⟨_,List.getElem?_eq_getElem (by have:=HO.out.2.1;omega)⟩
    obtain ⟨p,hp,esp,erow⟩:=bd.out.pl t u hu
    have CL:=hid (lookK_any A HD.out.1 t u hu)
    have HI:=hid (hi_best K.threads HO.out.2.2.2.1 t (by have:=HO.out.2.1;omega)).1
    have hib:=HI.out
    obtain ⟨hi,hhi⟩:∃ hi,hiM K.threads t=hi:=⟨_,rfl⟩
    rw [hhi] at hib ⊢
    have HHI:=hid hhi
    have HU:=hid hu
    have urow:=HO.out.2.2.2.1 t u hu
    have HP:=hid (And.intro hp (And.intro esp erow))
    clear hu hp esp erow HI hhi
    go_upto_region 6 with fail
    go_cut [8,9] from 28 to 33 (fun v8 v9 wx=>∃ (B:Nat),v8=.pointer (some ⟨B,0,none⟩)/\v9=.bool true/\B < wx.heap.size/\Hid (wx.cell? ⟨B,0,none⟩=some (.int .i64 u.st)/\wx.cell? ⟨B,2,none⟩=some (.int .i64 u.who)/\KS Rep WB wx x S K n/\Below W1.heap.size W1 wx))
    case first=>
     go_wp2_with fail
     refine CL.out.mono ?_
     rintro e w8 ⟨a,c,rfl,s8,B8,nb,K8⟩
     have hx:=heap_alloc_new w8 (.cells (c5 u.st u.code u.who a u.ws.length c u.got) 50)
     have bx:Below w8.heap.size w8 (w8.alloc (.cells (c5 u.st u.code u.who a u.ws.length c u.got) 50)):=(Below.refl _ w8).alloc (Nat.le_refl _) _
     have HM:=hid (And.intro ((cell_of_row _ _ 0 _ _ _ hx).trans (show _=some (Value.int .i64 u.st) from rfl)) (And.intro ((cell_of_row _ _ 2 _ _ _ hx).trans (show _=some (Value.int .i64 u.who) from rfl)) (And.intro (K8.below A bx) (HD.out.2.trans ((B8.trans (bx.mono B8.size)).mono HD.out.2.size)))))
     clear s8 B8 nb K8 hx bx
     go_wp2_with (with_reducible (show wpList _ _ _ (⟨_,.store 50 _ _,_,_,_,none⟩ :: _) _ _);go_must (refine wpList_store_new rfl 50 _ _ rfl w8 _ (c5 u.st u.code u.who a u.ws.length c u.got) 50 (by simp [Act.eval]) rfl (by kernel_rfl) rfl (c5_one _ _ _ _ _ _ _) ?_))
     go_meet
     exact ⟨_,rfl,rfl,by simp,HM.out⟩
    case rest=>
     obtain ⟨B,rfl,rfl,lB,HM⟩:=hcut
     obtain ⟨W8,hW8⟩:∃ W8,wc=W8:=⟨_,rfl⟩
     subst hW8
     have g0:=HM.out.1
     have g2:=HM.out.2.1
     have HK8:=hid HM.out.2.2.1
     have HB8:=hid HM.out.2.2.2
     have HBW:=hid HM.out.2.2.2
     clear HM HD v1 l3 CL
     obtain ⟨bt,ot,ea,rt⟩:=(HT.out.1.below (by omega) HBW.out).row (k:=t) (r:=tRow p) (by rw [List.getElem?_map,HP.out.1];rfl)
     subst ea
     have ct1:wc.cell? ⟨bt,ot+t*2+1,none⟩=some (.int .i64 p.2):=rt 1 _ rfl
     have lbt:=block_lt_of_cell ct1
     have d0:=(plan_cell HBW.out HC.out l1 0).trans (show _=some (Value.int .i64 3) from rfl)
     have d1:=(plan_cell HBW.out HC.out l1 1).trans (show _=some (Value.slice (some ⟨bt,ot,none⟩) n1 c1) from rfl)
     have d2:=(plan_cell HBW.out HC.out l1 2).trans (show _=some (Value.slice a2 n2 c2) from rfl)
     have d3:=(plan_cell HBW.out HC.out l1 3).trans (show _=some (Value.slice a3 n3 c3) from rfl)
     have l3:=block_lt_of_cell d0
     clear rt
     go_upto_region 7 with fail
     go_cut [45] from 34 to 44 (fun v45 wx=>v45=.bool false/\wx=wc)
     case first=>
      by_cases e:(t:Int)=cu
      ·have st1:u.st=1:=by
        obtain ⟨j,u',ej,hu',hs⟩:=K.cur_in (by rw [HCU.out];omega)
        rw [HCU.out] at ej
        have:j=t:=by omega
        subst this
        rw [HU.out] at hu'
        cases hu'
        exact hs
       rw [st1] at g0
       have f1:((t:Int) == cu)=true:=by simpa using e
       have HST:=hid st1
       clear e st1
       go_wp2_with fail
       go_meet
       exact ⟨rfl,rfl⟩
      ·have f1:((t:Int) == cu)=false:=by simpa using e
       clear e
       go_wp2_with fail
       go_meet
       exact ⟨rfl,rfl⟩
     case rest=>
      obtain ⟨rfl,hwc⟩:=hcut
      have hwc:=hwc.symm
      subst hwc
      go_upto_if 48 with fail
      go_cut [6] from 46 to 56 (fun v6 wx=>v6=.int .i64 (hiM K.threads (t+1))/\wx=wc)
      case first=>
       by_cases e:u.st=1
       ·have EH:=hid (show hiM K.threads (t+1)=max hi p.2 by rw [hi_yes HU.out e,HHI.out,HP.out.2.2])
        have f1:(u.st == 1)=true:=by simpa using e
        clear e
        go_wp2_with fail
        all_goals (go_meet;refine ⟨?_,rfl⟩;rw [EH.out];first | rw [show max hi p.2=p.2 by omega] | rw [show max hi p.2=hi by omega])
       ·have EH:=hid (show hiM K.threads (t+1)=hi by rw [hi_no HU.out e,HHI.out])
        have f1:(u.st == 1)=false:=by simpa using e
        clear e
        go_wp2_with fail
        go_meet
        exact ⟨by rw [EH.out],rfl⟩
      case rest=>
       obtain ⟨rfl,hwc⟩:=hcut
       have hwc:=hwc.symm
       subst hwc
       by_cases hw:0<=u.who
       ·obtain ⟨s,p2,j,qq,es,hp2,hj,e1,e2,e3⟩:=bd.out.heard HU.out hw
        have sn:s < n1:=by have:=(List.getElem?_eq_some_iff.1 hp2).1;rw [HT.out.2.2.2.1] at this;exact this
        have sn':(s:Int) < (n1:Int):=by omega
        have ct2:wc.cell? ⟨bt,ot+s*2,none⟩=some (.int .i64 p2.1):=by
         obtain ⟨b',o',ea,rr⟩:=(HT.out.1.below (by omega) HBW.out).row (k:=s) (r:=tRow p2) (by rw [List.getElem?_map,hp2];rfl)
         simp only [Option.some.injEq,Addr.mk.injEq] at ea
         obtain ⟨rfl,rfl,_⟩:=ea
         exact rr 0 _ rfl
        have CH:=hid (fun w' (hb:Below wc.heap.size wc w')=>had_yes 3 (some ⟨bt,ot,none⟩) a2 a3 n1 n2 n3 c1 c2 c3 Q p2.1 t 1 w' ((HT.out.2.1.below (by omega) HBW.out).below (by omega) hb) HT.out.2.2.2.2.1 (by omega) j qq hj e1 e2 e3)
        have hw0:(0:Int)<=(s:Int):=by omega
        have HWH:=hid es
        rw [es] at g2
        clear es hp2 hj e1 e2 e3 hw
        try rw [HWH.out]
        go_upto_region 12 with fail
        refine wp_region_still_tail (l:=ops28a) 9 mxk lex28a ?_
        simp only [List.take_succ_cons,List.take_zero,List.drop_succ_cons,List.drop_zero]
        still_step
        still_step
        still_step
        still_step
        still_step
        still_step
        still_step
        still_step
        still_step
        refine wpStill_nil ?_
        go_wp2_with (go_at_call 51;refine (CH.out _ ((Below.refl _ wc).drew)).mono ?_;rintro e w9 ⟨rfl,B9⟩;have HN:=hid (And.intro (HK8.out.below A (((Below.refl _ wc).drew).trans (B9.mono (Nat.le_refl _)))) (HB8.out.trans ((((Below.refl _ wc).drew).trans (B9.mono (Nat.le_refl _))).mono HB8.out.size)));clear B9)
        first
         | exact ⟨⟨t+1,by omega,rfl,by go_num,HN.out⟩,by simp [intOf];omega⟩
         | (
          go_roundw
          case rel=>first | exact ⟨t+1,by omega,rfl,by go_num,HN.out⟩ | ((repeat apply Exists.intro);exact ⟨⟨t+1,by omega,rfl,by go_num,HN.out⟩,rfl⟩)
          case measure=>simp [intOf];omega)
       ·have HN:=hid (And.intro HK8.out HB8.out)
        have hw1:u.who < 0:=by omega
        clear hw
        go_wp2_with fail
        first
         | exact ⟨⟨t+1,by omega,rfl,by go_num,HN.out⟩,by simp [intOf];omega⟩
         | (
          go_roundw
          case rel=>first | exact ⟨t+1,by omega,rfl,by go_num,HN.out⟩ | ((repeat apply Exists.intro);exact ⟨⟨t+1,by omega,rfl,by go_num,HN.out⟩,rfl⟩)
          case measure=>simp [intOf];omega)
   ·obtain rfl:t=n1:=by omega
    have HM:=hid HD.out
    clear htn HD
    go_wp2_with fail
    go_meet
    exact ⟨rfl,HM.out⟩
 case rest=>
  clear HK2
  obtain ⟨rfl,HD⟩:=hcut
  have d0:=(plan_cell HD.out.2 HC.out l1 0).trans (show _=some (Value.int .i64 3) from rfl)
  have d1:=(plan_cell HD.out.2 HC.out l1 1).trans (show _=some (Value.slice a1 n1 c1) from rfl)
  have l3:=block_lt_of_cell d0
  have HHC:=hid (show (K.cur=-1/\hiM K.threads n1=-1)\/∃ (j:Nat) (u:Th),K.cur=j/\K.threads[j]? = some u/\u.st=1/\hiM K.threads n1=u.row/\0<=u.row from HO.out.2.1 ▸ hi_cur HO.out.2.2.2.1)
  obtain ⟨hi,hhi⟩:∃ hi,hiM K.threads n1=hi:=⟨_,rfl⟩
  rw [hhi] at HHC ⊢
  clear hhi
  go_upto_region 15 with fail
  go_cut [90] from 72 to 89 (fun v90 wx=>v90=.bool false/\wx=wc)
  case first=>
   rcases HHC.out with ⟨e1,e2⟩ | ⟨j,u,e1,hu,_,e2,h0⟩
   ·have e3:cu=-1:=HCU.out.symm.trans e1
    subst e3
    subst e2
    clear e1
    go_wp2_with fail
    go_meet
    exact ⟨rfl,rfl⟩
   ·have e3:cu=j:=HCU.out.symm.trans e1
    obtain ⟨p,hp,esp,erow⟩:=bd.out.pl j u hu
    have jn:j < n1:=by have:=(List.getElem?_eq_some_iff.1 hp).1;rw [HT.out.2.2.2.1] at this;exact this
    have jn':(j:Int) < (n1:Int):=by omega
    obtain ⟨bt,ot,ea,rt⟩:=(HT.out.1.below (by omega) HD.out.2).row (k:=j) (r:=tRow p) (by rw [List.getElem?_map,hp];rfl)
    subst ea
    have ct1:wc.cell? ⟨bt,ot+j*2+1,none⟩=some (.int .i64 p.2):=rt 1 _ rfl
    have lbt:=block_lt_of_cell ct1
    have e4:hi=p.2:=by rw [e2,erow]
    have hp0:0<=p.2:=by omega
    subst e3
    subst e4
    clear e1 e2 hu hp esp erow rt HHC
    go_wp2_with fail
    go_meet
    exact ⟨rfl,rfl⟩
  case rest=>
   obtain ⟨rfl,hwc⟩:=hcut
   have hwc:=hwc.symm
   subst hwc
   have HD2:=hid HD.out
   clear HD d1 d0 l3 HHC
   go_upto_block 2 with fail
   go_wp2_with fail
   go_loopw [11] (fun v wr=>∃ s:Nat,s<=3/\v=.int .i64 s/\Hid (KS Rep WB wr x S K n/\Below W1.heap.size W1 wr)) (fun v _=>3-(intOf v).toNat)
   case atStart=>exact ⟨0,Nat.zero_le _,rfl,HD2.out⟩
   case round=>
    clear HD2
    obtain ⟨s,hs,rfl,HD⟩:=hrel
    have d0:=(plan_cell HD.out.2 HC.out l1 0).trans (show _=some (Value.int .i64 3) from rfl)
    have l3:=block_lt_of_cell d0
    by_cases hs3:s < 3
    ·have hs3':(s:Int) < 3:=by omega
     have C:=hid (ks_space A HD.out.1 s (by omega) (by rw [HO.out.1];omega))
     go_upto_region 20 with fail
     go_wp2_with fail
     refine C.out.mono ?_
     rintro e w5 ⟨v,u,rfl,s1,s2,b5,k5⟩
     obtain ⟨p1,q1,e1⟩:=s1.slice
     obtain ⟨m1,hm1⟩:∃ m,((told K.passes s 6).map qRow).length=m:=⟨_,rfl⟩
     rw [hm1] at e1
     subst e1
     obtain ⟨p2,q2,e2⟩:=s2.slice
     obtain ⟨m2,hm2⟩:∃ m,((told (K.leaves.map quad) s 6).map qRow).length=m:=⟨_,rfl⟩
     rw [hm2] at e2
     subst e2
     rw [List.length_map] at hm1 hm2
     have m16:m1<=6:=by rw [<- hm1];exact told_le _ _ _
     have m26:m2<=6:=by rw [<- hm2];exact told_le _ _ _
     have hx:=heap_alloc_new w5 (.cells #[.slice p1 m1 q1,.slice p2 m2 q2] 122)
     have bx:Below w5.heap.size w5 (w5.alloc (.cells #[.slice p1 m1 q1,.slice p2 m2 q2] 122)):=(Below.refl _ w5).alloc (Nat.le_refl _) _
     obtain ⟨W6,hW6⟩:∃ W6,w5.alloc (.cells #[.slice p1 m1 q1,.slice p2 m2 q2] 122)=W6:=⟨_,rfl⟩
     have l6:w5.heap.size < W6.heap.size:=by rw [<- hW6];simp
     rw [hW6] at hx bx
     obtain ⟨RP,hRP⟩:∃ R,told K.passes s 6=R:=⟨_,rfl⟩
     obtain ⟨RL,hRL⟩:∃ R,told (K.leaves.map quad) s 6=R:=⟨_,rfl⟩
     rw [hRP] at s1 hm1
     rw [hRL] at s2 hm2
     have H6:=hid (And.intro hx (And.intro (s1.below bx) (And.intro (s2.below bx) (And.intro (k5.below A bx) (HD.out.2.trans ((b5.trans (bx.mono b5.size)).mono HD.out.2.size))))))
     obtain ⟨B,hB⟩:∃ B,w5.heap.size=B:=⟨_,rfl⟩
     rw [hB] at H6 l6
     have HR:=hid (And.intro hRP (And.intro hRL (And.intro hm1 hm2)))
     have HW6:=hid hW6
     have HBB:=hid hB
     clear s1 s2 b5 k5 hm1 hm2 hx bx hW6 hRP hRL C hB HD d0 l3
     go_upto_block 4 with fail
     rw [HW6.out,HBB.out]
     go_wp2_with fail
     go_loopw [14] (fun v wr=>∃ i:Nat,i<=m1/\v=.int .i64 i/\Hid (Below W6.heap.size W6 wr)) (fun v _=>m1-(intOf v).toNat)
     case atStart=>exact ⟨0,Nat.zero_le _,rfl,Below.refl _ _⟩
     case round=>
      obtain ⟨i,hi1,rfl,HE⟩:=hrel
      have bq:=H6.out.2.2.2.2.trans (HE.out.mono H6.out.2.2.2.2.size)
      have x0:=(plan_cell HE.out H6.out.1 l6 0).trans (show _=some (Value.slice p1 m1 q1) from rfl)
      have x1:=(plan_cell HE.out H6.out.1 l6 1).trans (show _=some (Value.slice p2 m2 q2) from rfl)
      have lB:=block_lt_of_cell x0
      have d0:=(plan_cell bq HC.out l1 0).trans (show _=some (Value.int .i64 3) from rfl)
      have d1:=(plan_cell bq HC.out l1 1).trans (show _=some (Value.slice a1 n1 c1) from rfl)
      have d2:=(plan_cell bq HC.out l1 2).trans (show _=some (Value.slice a2 n2 c2) from rfl)
      have d3:=(plan_cell bq HC.out l1 3).trans (show _=some (Value.slice a3 n3 c3) from rfl)
      have l3:=block_lt_of_cell d0
      by_cases him:i < m1
      ·have him':(i:Int) < (m1:Int):=by omega
       obtain ⟨y,hy⟩:∃ y,RP[i]? = some y:=⟨_,List.getElem?_eq_getElem (by have:=HR.out.2.2.1;omega)⟩
       have sl:=H6.out.2.1.below HE.out
       obtain ⟨g,ea,hxx⟩:=sl.is_some (by omega)
       clear hxx
       subst ea
       have c2':wr.cell? ⟨g,i*4+2,none⟩=some (.int .i64 y.2.2.1):=sl.row (i:=i) (r:=qRow y) (by rw [List.getElem?_map,hy];rfl) 2 _ rfl
       have c3':wr.cell? ⟨g,i*4+3,none⟩=some (.int .i64 y.2.2.2):=sl.row (i:=i) (r:=qRow y) (by rw [List.getElem?_map,hy];rfl) 3 _ rfl
       have lg:=block_lt_of_cell c2'
       obtain ⟨_,j,qq,hj,e1,e2,e3⟩:=bd.out.passed (x:=y) (s:=s) (by rw [HR.out.1];exact List.mem_of_getElem? hy)
       have CH:=hid (fun w' (hb:Below wr.heap.size wr w')=>had_yes 3 a1 a2 a3 n1 n2 n3 c1 c2 c3 Q s y.2.2.1 y.2.2.2 w' ((HT.out.2.1.below (by omega) bq).below (by omega) hb) HT.out.2.2.2.2.1 (by omega) j qq hj e1 e2 e3)
       have HE1:=hid HE.out
       clear sl hy hj e1 e2 e3 HE bq x1
       go_upto_region 26 with fail
       refine wp_region_still_tail (l:=ops28b) 14 mxk lex28b ?_
       simp only [List.take_succ_cons,List.take_zero,List.drop_succ_cons,List.drop_zero]
       still_step
       still_step
       still_step
       still_step
       still_step
       still_step
       still_step
       still_step
       still_step
       still_step
       still_step
       still_step
       still_step
       still_step
       refine wpStill_nil ?_
       go_wp2_with (go_at_call 51;refine (CH.out _ ((Below.refl _ _).drew)).mono ?_;rintro e w9 ⟨rfl,B9⟩;have HN:=hid (HE1.out.trans ((((Below.refl _ wr).drew).trans (B9.mono (Nat.le_refl _))).mono HE1.out.size));clear B9)
       first
        | exact ⟨⟨i+1,by omega,by go_num,HN.out⟩,by simp [intOf];omega⟩
        | (
         go_roundw
         case rel=>first | exact ⟨i+1,by omega,by go_num,HN.out⟩ | ((repeat apply Exists.intro);exact ⟨⟨i+1,by omega,by go_num,HN.out⟩,rfl⟩)
         case measure=>simp [intOf];omega)
      ·obtain rfl:i=m1:=by omega
       have HE1:=hid HE.out
       clear him HE bq d0 d1 d2 d3 l3
       go_upto_block 6 with fail
       go_wp2_with fail
       go_loopw [16] (fun v wr=>∃ j:Nat,j<=m2/\v=.int .i64 j/\Hid (Below W6.heap.size W6 wr)) (fun v _=>m2-(intOf v).toNat)
       case atStart=>exact ⟨0,Nat.zero_le _,rfl,HE1.out⟩
       case round=>
        clear HE1 x0 x1 lB
        obtain ⟨j,hj1,rfl,HE⟩:=hrel
        have x1:=(plan_cell HE.out H6.out.1 l6 1).trans (show _=some (Value.slice p2 m2 q2) from rfl)
        have lB:=block_lt_of_cell x1
        by_cases hjm:j < m2
        ·have hjm':(j:Int) < (m2:Int):=by omega
         obtain ⟨y,hy⟩:∃ y,RL[j]? = some y:=⟨_,List.getElem?_eq_getElem (by have:=HR.out.2.2.2;omega)⟩
         have lf:=bd.out.leafed HO.out.2.2.1 (x:=y) (s:=s) (by rw [HR.out.2.1];exact List.mem_of_getElem? hy)
         rw [HT.out.2.2.2.2.2] at lf
         have HY:=hid hy
         have HE1:=hid HE.out
         have HLF:=hid lf
         clear hy lf HE
         go_upto_block 8 with fail
         go_cut [17,18] from 136 to 161 (fun v17 v18 wx=>v17=.int .i64 (rtM L y.2.2.1 n3)/\Hid (Below W6.heap.size W6 wx))
         case first=>
          go_wp2_with fail
          go_loopw [17,18] (fun v17 v18 wr=>∃ k:Nat,k<=n3/\v17=.int .i64 (rtM L y.2.2.1 k)/\v18=.int .i64 k/\Hid (Below W6.heap.size W6 wr)) (fun _ v18 _=>n3-(intOf v18).toNat)
          case atStart=>exact ⟨0,Nat.zero_le _,rfl,rfl,HE1.out⟩
          case round=>
           clear HE1 x1 lB
           obtain ⟨k,hk,rfl,rfl,HE⟩:=hrel
           have bq:=H6.out.2.2.2.2.trans (HE.out.mono H6.out.2.2.2.2.size)
           have x1:=(plan_cell HE.out H6.out.1 l6 1).trans (show _=some (Value.slice p2 m2 q2) from rfl)
           have d3:=(plan_cell bq HC.out l1 3).trans (show _=some (Value.slice a3 n3 c3) from rfl)
           have l3:=block_lt_of_cell d3
           have lB:=block_lt_of_cell x1
           by_cases hkn:k < n3
           ·have hkn':(k:Int) < (n3:Int):=by omega
            have sl:=H6.out.2.2.1.below HE.out
            obtain ⟨g,ea,hxx⟩:=sl.is_some (by omega)
            clear hxx
            subst ea
            have c2':wr.cell? ⟨g,j*4+2,none⟩=some (.int .i64 y.2.2.1):=sl.row (i:=j) (r:=qRow y) (by rw [List.getElem?_map,HY.out];rfl) 2 _ rfl
            have lg:=block_lt_of_cell c2'
            obtain ⟨z,hz⟩:∃ z,L[k]? = some z:=⟨_,List.getElem?_eq_getElem (by have:=HT.out.2.2.2.2.2;omega)⟩
            obtain ⟨bt,ot,ea,rt⟩:=(HT.out.2.2.1.below (by omega) bq).row (k:=k) (r:=qRow z) (by rw [List.getElem?_map,hz];rfl)
            subst ea
            have t2:wr.cell? ⟨bt,ot+k*4+2,none⟩=some (.int .i64 z.2.2.1):=rt 2 _ rfl
            have t3:wr.cell? ⟨bt,ot+k*4+3,none⟩=some (.int .i64 z.2.2.2):=rt 3 _ rfl
            have lbt:=block_lt_of_cell t2
            have HN:=hid HE.out
            by_cases e:z.2.2.1=y.2.2.1
            ·have EH:=hid (rt_yes (L:=L) (n:=k) hz e)
             have f1:(z.2.2.1 == y.2.2.1)=true:=by simpa using e
             clear e hz rt sl HE bq
             go_wp2_with fail
             go_quiet (fail)
             go_wp2_with fail
             first
              | exact ⟨⟨k+1,by omega,(by rw [EH.out]),by go_num,(by first | exact HN.out | exact HN.out.drew | exact below_drewN HN.out _ | exact below_drewN (below_drewN HN.out _) _)⟩,by simp [intOf];omega⟩
              | (
               go_roundw
               case rel=>first | exact ⟨k+1,by omega,(by rw [EH.out]),by go_num,(by first | exact HN.out | exact HN.out.drew | exact below_drewN HN.out _ | exact below_drewN (below_drewN HN.out _) _)⟩ | ((repeat apply Exists.intro);exact ⟨⟨k+1,by omega,(by rw [EH.out]),by go_num,(by first | exact HN.out | exact HN.out.drew | exact below_drewN HN.out _ | exact below_drewN (below_drewN HN.out _) _)⟩,rfl⟩)
               case measure=>simp [intOf];omega)
            ·have EH:=hid (rt_no (L:=L) (n:=k) hz e)
             have f1:(z.2.2.1 == y.2.2.1)=false:=by simpa using e
             clear e hz rt sl HE bq
             go_wp2_with fail
             go_quiet (fail)
             go_wp2_with fail
             first
              | exact ⟨⟨k+1,by omega,(by rw [EH.out]),by go_num,(by first | exact HN.out | exact HN.out.drew | exact below_drewN HN.out _ | exact below_drewN (below_drewN HN.out _) _)⟩,by simp [intOf];omega⟩
              | (
               go_roundw
               case rel=>first | exact ⟨k+1,by omega,(by rw [EH.out]),by go_num,(by first | exact HN.out | exact HN.out.drew | exact below_drewN HN.out _ | exact below_drewN (below_drewN HN.out _) _)⟩ | ((repeat apply Exists.intro);exact ⟨⟨k+1,by omega,(by rw [EH.out]),by go_num,(by first | exact HN.out | exact HN.out.drew | exact below_drewN HN.out _ | exact below_drewN (below_drewN HN.out _) _)⟩,rfl⟩)
               case measure=>simp [intOf];omega)
           ·obtain rfl:k=n3:=by omega
            have HM:=hid HE.out
            clear hkn HE bq
            go_wp2_with fail
            go_meet
            exact ⟨rfl,HM.out⟩
         case rest=>
          obtain ⟨rfl,HE⟩:=hcut
          clear HE1 x1 lB
          have x1:=(plan_cell HE.out H6.out.1 l6 1).trans (show _=some (Value.slice p2 m2 q2) from rfl)
          have lB:=block_lt_of_cell x1
          have sl:=H6.out.2.2.1.below HE.out
          obtain ⟨g,ea,hxx⟩:=sl.is_some (by omega)
          clear hxx
          subst ea
          have c3':wc.cell? ⟨g,j*4+3,none⟩=some (.int .i64 y.2.2.2):=sl.row (i:=j) (r:=qRow y) (by rw [List.getElem?_map,HY.out];rfl) 3 _ rfl
          have lg:=block_lt_of_cell c3'
          obtain ⟨rr,hrr⟩:∃ rr,rtM L y.2.2.1 n3=rr:=⟨_,rfl⟩
          rw [hrr] at HLF ⊢
          have f1:(bits .and .i64 y.2.2.2 rr == y.2.2.2)=true:=by simpa using HLF.out.1
          have f2:(bits .and .i64 y.2.2.2 rr != y.2.2.2)=false:=by simpa using HLF.out.1
          have f3:(y.2.2.2 == 0)=false:=by rw [beq_eq_false_iff_ne];have:=HLF.out.2.1;omega
          have HN:=hid HE.out
          clear hrr sl HE
          go_wp2_with fail
          go_quiet (fail)
          go_wp2_with fail
          first
           | exact ⟨⟨j+1,by omega,by go_num,(by first | exact HN.out | exact HN.out.drew | exact below_drewN HN.out _ | exact below_drewN (below_drewN HN.out _) _)⟩,by simp [intOf];omega⟩
           | (
            go_roundw
            case rel=>first | exact ⟨j+1,by omega,by go_num,(by first | exact HN.out | exact HN.out.drew | exact below_drewN HN.out _ | exact below_drewN (below_drewN HN.out _) _)⟩ | ((repeat apply Exists.intro);exact ⟨⟨j+1,by omega,by go_num,(by first | exact HN.out | exact HN.out.drew | exact below_drewN HN.out _ | exact below_drewN (below_drewN HN.out _) _)⟩,rfl⟩)
            case measure=>simp [intOf];omega)
        ·obtain rfl:j=m2:=by omega
         have HG:=hid (And.intro (H6.out.2.2.2.1.below A HE.out) (H6.out.2.2.2.2.trans (HE.out.mono H6.out.2.2.2.2.size)))
         clear hjm HE
         go_wp2_with fail
         first
          | exact ⟨⟨s+1,by omega,by go_num,HG.out⟩,by simp [intOf];omega⟩
          | (
           go_roundw
           case rel=>first | exact ⟨s+1,by omega,by go_num,HG.out⟩ | ((repeat apply Exists.intro);exact ⟨⟨s+1,by omega,by go_num,HG.out⟩,rfl⟩)
           case measure=>simp [intOf];omega)
    ·obtain rfl:s=3:=by omega
     have HG:=hid HD.out
     clear hs3 HD
     go_wp2_with fail
     go_ret
     exact ⟨rfl,HB.out.trans (HG.out.2.mono HB.out.size),HG.out.1⟩
end
open Go.RowKit
abbrev ops11:List Oper:=
 [{ dst:=some 31,op:=Op.move (Operand.tmp 7),type:=35,pos:= "keeps.go:187",after:=#[],guard:=none },{ dst:=some 32,op:=Op.move (Operand.tmp 1),type:=59,pos:= "keeps.go:187",after:=#[],guard:=none },{ dst:=some 33,op:=Op.move (Operand.tmp 8),type:=3,pos:= "keeps.go:187",after:=#[],guard:=none },{ dst:=some 34,op:=Op.indexAddr 59 (Operand.tmp 32) (Operand.tmp 33),type:=0,pos:= "keeps.go:187",after:=#[{ on:=1,ground:=Ground.data },{ on:=2,ground:=Ground.data }],guard:=none },{ dst:=some 35,op:=Op.load 63 (Operand.tmp 34),type:=63,pos:= "keeps.go:187",after:=#[{ on:=3,ground:=Ground.data }],guard:=none },{ dst:=some 36,op:=Op.fieldAddr 32 (Operand.tmp 6) 1,type:=0,pos:= "keeps.go:187",after:=#[],guard:=none },{ dst:=some 37,op:=Op.load 28 (Operand.tmp 36),type:=28,pos:= "keeps.go:187",after:=#[{ on:=5,ground:=Ground.data }],guard:=none },{ dst:=some 38,op:=Op.call { callee:=Callee.builtin Builtin.len,args:=#[Operand.tmp 37],argTypes:=#[28] },type:=3,pos:= "keeps.go:187",after:=#[{ on:=6,ground:=Ground.data }],guard:=none },{ dst:=some 39,op:=Op.call { callee:=Callee.value (Operand.func 27),args:=#[Operand.tmp 31,Operand.tmp 35,Operand.tmp 38],argTypes:=#[35,63,3] },type:=0,pos:= "keeps.go:187",after:=#[{ on:=0,ground:=Ground.data },{ on:=4,ground:=Ground.data },{ on:=7,ground:=Ground.data }],guard:=none }]
theorem lex11:Region.lexTailB .any (ops11).toArray 8=true:=by kernel_rfl
section
variable {Rep:World->Nat->(Nat->Prop)->RM->Prop}(A:ApM Rep)
include A in
theorem bounded_any (PT PP PL:List Int) (aT aP aL:Option Addr) (mT cT mP cP mL cL:Nat) (ac:List (Ac×Sv)) (aA:Option Addr) (mA cA:Nat) (w:World) (hg:Gl w) (iT:Inl w 1 (.slice aT mT cT) (PT.map lnI)) (iP:Inl w 1 (.slice aP mP cP) (PP.map lnI)) (iL:Inl w 1 (.slice aL mL cL) (PL.map lnI)) (lT:PT.length=mT) (lP:PP.length=mP) (lL:PL.length=mL) (bT:mT<=100000000000000) (bP:mP<=100000000000000) (bL:mL<=100000000000000)
  (rT:∀ z∈PT,-9223372036854775808<=z/\z<=9223372036854775807) (rP:∀ z∈PP,-9223372036854775808<=z/\z<=9223372036854775807) (rL:∀ z∈PL,-9223372036854775808<=z/\z<=9223372036854775807)
  (iA:Inl w 7 (.slice aA mA cA) (ac.map (fun p=>(acA p.1 p.2).toList))) (lA:ac.length=mA) (bA:mA<=100000000000000) (hA:∀ p∈ac,AcOk w p.1 p.2) :
  Calls Tryz.prog 11 #[.agg #[.slice aT mT cT,.slice aP mP cP,.slice aL mL cL],.slice aA mA cA] w fun e w'=>e=.returned (.bool true)/\Below w.heap.size w w':=by
 have b0:Below w.heap.size w (w.alloc (.cells #[.slice aT mT cT,.slice aP mP cP,.slice aL mL cL] 58)):=(Below.refl _ w).alloc (Nat.le_refl _) _
 have C1:=hid (known_any A _ (hg.below b0))
 have HP0:=hid (heap_alloc_new w (.cells #[.slice aT mT cT,.slice aP mP cP,.slice aL mL cL] 58))
 have CF:=hid (fun (w1:World) (hb:Below w.heap.size w w1)=>config_false PT PP PL aT aP aL mT cT mP cP mL cL w1 (iT.below (by omega) hb) (iP.below (by omega) hb) (iL.below (by omega) hb) lT lP lL bT bP bL rT rP rL)
 have HA:=hid (And.intro iA (And.intro lA hA))
 have HG:=hid (And.intro hg b0)
 clear b0 iT iP iL lT lP lL rT rP rL iA lA hA hg bT bP bL
 go_enter Tryz.func11,Tryz.ntmps11
 go_wp2_with fail
 refine C1.out.mono ?_
 rintro e w1 ⟨rfl,B1⟩
 have b1:Below w.heap.size w w1:=HG.out.2.trans (B1.mono (by simp))
 have C2:=hid (CF.out w1 b1)
 have p1:w1.rangeAt w.heap.size 0 [.slice aT mT cT,.slice aP mP cP,.slice aL mL cL]:=fun j v hv=>by
  rw [cell_of_row _ _ (0+j) _ _ _ ((B1.block w.heap.size (by simp)).trans HP0.out),Nat.zero_add,List.getElem?_toArray];exact hv
 have HP1:=hid p1
 have HB1:=hid b1
 clear B1 b1 p1 CF HP0 C1
 go_wp2_with (with_reducible (show wpList _ _ _ (⟨_,.load 58 _,_,_,_,none⟩ :: _) _ _);go_must (refine wpList_load_mid rfl 58 _ rfl w.heap.size 0 rfl _ _ HP1.out Tryz.underlying58 rfl (by kernel_rfl) ?_))
 refine C2.out.mono ?_
 rintro e w2 ⟨T,Q,L,a1,a2,a3,c1,c2,c3,rfl,j1,j2,j3,B2,hf,hfr,_⟩
 obtain ⟨n1,hn1⟩:∃ n1,T.length=n1:=⟨_,rfl⟩
 obtain ⟨n2,hn2⟩:∃ n2,Q.length=n2:=⟨_,rfl⟩
 obtain ⟨n3,hn3⟩:∃ n3,L.length=n3:=⟨_,rfl⟩
 rw [hn1] at j1 ⊢
 rw [hn2] at j2 ⊢
 rw [hn3] at j3 ⊢
 have n16:n1<=6:=by rw [<- hn1];exact hf.2.1.2
 have n18:n3<=18:=by rw [<- hn3];exact q18 (sp:=3) (by omega) hf.2.2.2.2.2.1 hf.2.2.2.2.2.2
 have bB:Below w2.heap.size w2 (w2.alloc (.cells #[.int .i64 3,.slice a1 n1 c1,.slice a2 n2 c2,.slice a3 n3 c3] 32)):=(Below.refl _ w2).alloc (Nat.le_refl _) _
 have hCB:=heap_alloc_new w2 (.cells #[.int .i64 3,.slice a1 n1 c1,.slice a2 n2 c2,.slice a3 n3 c3] 32)
 have b2:Below w.heap.size w w2:=HB1.out.trans (B2.mono HB1.out.size)
 obtain ⟨WB,hWB⟩:∃ WB,w2.alloc (.cells #[.int .i64 3,.slice a1 n1 c1,.slice a2 n2 c2,.slice a3 n3 c3] 32)=WB:=⟨_,rfl⟩
 have lCB:w2.heap.size < WB.heap.size:=by rw [<- hWB];simp
 rw [hWB] at bB hCB
 have bW:Below w.heap.size w WB:=b2.trans (bB.mono b2.size)
 have C3:=hid (boot_any A 3 a1 a2 a3 n1 n2 n3 c1 c2 c3 T Q L WB (HG.out.1.below bW) (j1.below (by omega) bB) (j2.below (by omega) bB) (j3.below (by omega) bB) hf 0)
 have HC:=hid (And.intro hCB (And.intro (j1.below (by omega) bB) (And.intro (j2.below (by omega) bB) (j3.below (by omega) bB))))
 have n28:n2<=18:=by rw [<- hn2];exact q18 (sp:=3) (by omega) hf.2.2.2.1 hf.2.2.2.2.1
 have HF:=hid (And.intro hf (And.intro hfr (And.intro hn1 (And.intro hn2 hn3))))
 have HI:=hid (And.intro (HA.out.1.below (by omega) bW) (And.intro HA.out.2.1 (And.intro (fun p hp=>(HA.out.2.2 p hp).below bW) bW)))
 have HWB:=hid hWB
 obtain ⟨cb,hcb⟩:∃ cb,w2.heap.size=cb:=⟨_,rfl⟩
 have RC:=hid (show WB.rangeAt w2.heap.size 0 [.int .i64 3,.slice a1 n1 c1,.slice a2 n2 c2,.slice a3 n3 c3] from fun j v hv=>by rw [cell_of_row _ _ (0+j) _ _ _ hCB,Nat.zero_add,List.getElem?_toArray];exact hv)
 have Hcb:=hid hcb
 clear bB hCB b2 hWB bW j1 j2 j3 B2 hf hfr hn1 hn2 hn3 C2 HP1 HB1 HA HG hcb
 go_wp2_with (first
  | (with_reducible (show wpList _ _ _ (⟨_,.store 32 _ _,_,_,_,none⟩ :: _) _ _);go_must (refine wpList_store_new rfl 32 _ _ rfl w2 _ #[.int .i64 3,.slice a1 n1 c1,.slice a2 n2 c2,.slice a3 n3 c3] 32 (by simp [Act.eval]) rfl (by kernel_rfl) rfl (by simp [Value.oneCell']) ?_);rw [HWB.out])
  | (with_reducible (show wpList _ _ _ (⟨_,.load 32 _,_,_,_,none⟩ :: _) _ _);go_must (refine wpList_load_mid rfl 32 _ rfl w2.heap.size 0 rfl _ _ RC.out Tryz.underlying32 rfl (by kernel_rfl) ?_)))
 refine C3.out.mono ?_
 rintro e w3 ⟨x,S3,rfl,K3,B3⟩
 have K3':=hid (ka_new K3 HF.out.1)
 rw [Hcb.out] at HC lCB ⊢
 clear K3 B3 C3 HWB RC Hcb
 have CR:=hid (show ∀ (w:World) (K:RM) (n:Nat),KA Rep WB w x T Q L K n->Calls Tryz.prog 28 #[.pointer (some ⟨x,0,none⟩),.agg #[.int .i64 3,.slice a1 n1 c1,.slice a2 n2 c2,.slice a3 n3 c3]] w fun e w'=>e=.returned (.bool true)/\KA Rep WB w' x T Q L K n from fun w K n h=>by
  obtain ⟨S,hS⟩:=h.ks
  exact (rules_any A hS h.bd h.sp h.ln HF.out.2.1 a1 a2 a3 n1 n2 n3 c1 c2 c3 (HC.out.2.1.below (by omega) h.bel) (HC.out.2.2.1.below (by omega) h.bel) (HC.out.2.2.2.below (by omega) h.bel) HF.out.2.2.1 HF.out.2.2.2.1 HF.out.2.2.2.2 n16 n28 n18).mono (by rintro e w' ⟨rfl,b,_⟩;exact ⟨rfl,h.below A b⟩))
 go_upto_block 0 with fail
 go_cut [8] from 21 to 44 (fun v wx=>∃ (K:RM) (n:Nat),n<=80/\Hid (KA Rep WB wx x T Q L K n))
 case first=>
  go_wp2_with fail
  go_loopw [8] (fun i wr=>∃ (j:Nat) (K:RM),j<=80/\j<=mA/\i=.int .i64 j/\Hid (KA Rep WB wr x T Q L K j)) (fun i _=>80-(intOf i).toNat)
  case atStart=>exact ⟨0,_,by omega,by omega,rfl,K3'.out⟩
  case round=>
   clear K3'
   obtain ⟨j,K,hj6,hjA,rfl,HK⟩:=hrel
   have bel:=HK.out.bel
   have v1:=(plan_cell bel HC.out.1 lCB 1).trans (show _=some (Value.slice a1 n1 c1) from rfl)
   have lcb:=block_lt_of_cell v1
   by_cases h6:j < 80/\j < mA
   ·have h61:(j:Int) < 80:=by omega
    have h6A:(j:Int) < (mA:Int):=by omega
    obtain ⟨p,hp⟩:∃ p,ac[j]? = some p:=⟨_,List.getElem?_eq_getElem (by have:=HI.out.2.1;omega)⟩
    obtain ⟨bl,ol,ea,rr⟩:=(HI.out.1.below (by omega) bel).row (k:=j) (r:=(acA p.1 p.2).toList) (by rw [List.getElem?_map,hp];rfl)
    subst ea
    have gg0:wr.cell? ⟨bl,ol+j*7,none⟩=some (.int .i64 p.1.kd):=rr 0 _ rfl
    have gg1:wr.cell? ⟨bl,ol+j*7+1,none⟩=some (.int .i64 p.1.A):=rr 1 _ rfl
    have gg2:wr.cell? ⟨bl,ol+j*7+2,none⟩=some (.int .i64 p.1.B):=rr 2 _ rfl
    have gg3:wr.cell? ⟨bl,ol+j*7+3,none⟩=some (.int .i64 p.1.C):=rr 3 _ rfl
    have gg4:wr.cell? ⟨bl,ol+j*7+4,none⟩=some (.int .i64 p.1.D):=rr 4 _ rfl
    have gg5:wr.cell? ⟨bl,ol+j*7+5,none⟩=some (.int .i64 p.1.E):=rr 5 _ rfl
    have gg6:wr.cell? ⟨bl,ol+j*7+6,none⟩=some (.slice p.2.a p.2.n p.2.c):=rr 6 _ rfl
    have CD:=hid (ka_does A (HK.out.below A (Below.refl _ wr).drew) (by omega) p.1 p.2 (HI.out.2.2.1 p (List.mem_of_getElem? hp)) n1 n16)
    have h6m:=hid h6
    clear hp rr HK h6 bel
    go_wp2_with fail
    refine wp_region_still_tail (l:=ops11) 8 mxk lex11 ?_
    simp only [List.take_succ_cons,List.take_zero,List.drop_succ_cons,List.drop_zero]
    still_step
    still_step
    still_step
    still_step
    still_step
    still_step
    still_step
    still_step
    refine wpStill_nil ?_
    go_wp2_with fail
    refine CD.out.mono ?_
    rintro e w5 ⟨rfl,K5⟩
    have C5:=hid (CR.out _ _ _ K5)
    have R5:=hid (show w5.rangeAt cb 0 [.int .i64 3,.slice a1 n1 c1,.slice a2 n2 c2,.slice a3 n3 c3] from fun j v hv=>by rw [plan_cell K5.bel HC.out.1 lCB (0+j),Nat.zero_add,List.getElem?_toArray];exact hv)
    clear K5 CD v1 lcb gg0 gg1 gg2 gg3 gg4 gg5 gg6
    go_wp2_with (first
     | (go_at_call 28;refine C5.out.mono ?_;rintro e w6 ⟨rfl,K6⟩;replace K6:=hid K6)
     | (with_reducible (show wpList _ _ _ (⟨_,.load 32 _,_,_,_,none⟩ :: _) _ _);go_must (refine wpList_load_mid rfl 32 _ rfl cb 0 rfl _ _ R5.out Tryz.underlying32 rfl (by kernel_rfl) ?_)))
    first
     | exact ⟨⟨j+1,_,by have:=h6m.out;omega,by have:=h6m.out;omega,by go_num,K6.out⟩,by simp [intOf];omega⟩
     | (
      go_roundw
      case rel=>first | exact ⟨j+1,_,by have:=h6m.out;omega,by have:=h6m.out;omega,by go_num,K6.out⟩ | ((repeat apply Exists.intro);exact ⟨⟨j+1,_,by have:=h6m.out;omega,by have:=h6m.out;omega,by go_num,K6.out⟩,rfl⟩)
      case measure=>simp [intOf];omega)
   ·by_cases hT:j < mA
    ·have h1:(j:Int) < (mA:Int):=by omega
     have h2:(80:Int)<=(j:Int):=by omega
     have HM:=hid HK.out
     clear h6 HK bel
     go_wp2_with fail
     go_meet
     exact ⟨K,j,hj6,HM.out⟩
    ·obtain rfl:j=mA:=by omega
     have HM:=hid HK.out
     clear h6 HK hT bel
     go_wp2_with fail
     go_meet
     exact ⟨K,_,hj6,HM.out⟩
 case rest=>
  clear K3'
  obtain ⟨K,n,hn60,HK⟩:=hcut
  have C5:=hid (CR.out _ _ _ HK.out)
  have R5:=hid (show wc.rangeAt cb 0 [.int .i64 3,.slice a1 n1 c1,.slice a2 n2 c2,.slice a3 n3 c3] from fun j v hv=>by rw [plan_cell HK.out.bel HC.out.1 lCB (0+j),Nat.zero_add,List.getElem?_toArray];exact hv)
  clear HK
  go_wp2_with (first
   | (go_at_call 28;refine C5.out.mono ?_;rintro e w6 ⟨rfl,K6⟩;replace K6:=hid K6)
   | (with_reducible (show wpList _ _ _ (⟨_,.load 32 _,_,_,_,none⟩ :: _) _ _);go_must (refine wpList_load_mid rfl 32 _ rfl cb 0 rfl _ _ R5.out Tryz.underlying32 rfl (by kernel_rfl) ?_)))
  go_ret
  exact ⟨rfl,HI.out.2.2.2.trans (K6.out.bel.mono HI.out.2.2.2.size)⟩
end
end Go.Proofs.YteejjgbeknnmeaaGreatDoor
