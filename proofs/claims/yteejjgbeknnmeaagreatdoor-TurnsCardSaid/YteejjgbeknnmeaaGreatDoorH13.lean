import Derived.Test.YteejjgbeknnmeaaGreatDoorH12
set_option maxRecDepth 100000
set_option maxHeartbeats 20000000
namespace Go.Proofs.YteejjgbeknnmeaaGreatDoor
open Go.RowKit
def Ans (cd:Int) (e:Ending) (w w':World):Prop:=(cd=0/\e=.returned .nilIface)\/(∃ st,e=.returned (.iface 166 (.agg #[.string st,.iface 160 (.agg #[.int .i64 cd])]))/\Below w.heap.size w w')
theorem findLf_mem {L:List Lf}{s n:Int}{l:Lf}(h:findLf L s n=some l):l∈L/\l.sp=s/\l.pg=n:=by
 unfold findLf at h
 refine ⟨List.mem_of_find?_eq_some h,?_⟩
 have:=List.find?_some h
 simpa using this
theorem lb_rt {L:List Lf}(h:∀ l∈L,okLf l) (s n:Int):lb (findLf L s n)=0\/lb (findLf L s n)=1\/lb (findLf L s n)=2\/lb (findLf L s n)=3:=by
 rcases hf:findLf L s n with _ | l
 ·exact .inl rfl
 ·have:=h l (findLf_mem hf).1
  unfold okLf at this
  simp only [lb]
  omega
theorem KR.left {w w':World}{B:Bk}{S:Nat->Prop}{K:RM}(h:KR w B S K) (hb:Below w.heap.size w w'):KLeft B S none_ K w w':=by
 obtain ⟨M,h,R⟩:=h
 exact ⟨M,PLeft.below h hb,R⟩
section
variable {w w':World}{B:Bk}{S:Nat->Prop}{M:PM}{K:RM}{cs:Array Value}{rv:Nat->Value}{sl:List (Sv×Sv×Value)}{t s n:Nat}
theorem PmAt.setFr (h:PmAt w B M cs rv sl) (j:Nat) (hj:j < 32) (a:Int):PmAt (w.setCell ⟨B.x,7+j,none⟩ (.int .i64 a)) B { M with fr:=frSet M.fr j a } (cs.setIfInBounds (7+j) (.int .i64 a)) rv sl/\Fr (fun k=>k=B.x) w (w.setCell ⟨B.x,7+j,none⟩ (.int .i64 a)):=by
 have F:Fr (fun k=>k=B.x) w (w.setCell ⟨B.x,7+j,none⟩ (.int .i64 a)):=(Fr.refl (fun k=>k=B.x) w).setCell (p:=⟨B.x,7+j,none⟩) (fun _=>rfl) _
 refine ⟨⟨heap_setCell_same w B.x (7+j) cs B.ty _ h.blk,by simpa using h.size,?_,?_,?_,?_,fun i hi=>?_,h.ln,h.th.kept F (fun k hk e=>by simp [Value.ownBlock] at hk;subst hk;exact h.n1.1 e),h.sp.kept F (fun k hk e=>by simp [Value.ownBlock] at hk;subst hk;exact h.n1.2.1 e),fun i hi=>(h.li i hi).kept F (fun k hk e=>(h.n2 i hi k hk).1 e),fun i p u hp hu=>?_,h.n1,h.n2,h.n3⟩,F⟩
 ·rw [Array.getElem?_setIfInBounds_ne (by omega)];exact h.c0
 ·rw [Array.getElem?_setIfInBounds_ne (by omega)];exact h.c1
 ·intro r hr;rw [Array.getElem?_setIfInBounds_ne (by omega)];exact h.row r hr
 ·rw [Array.getElem?_setIfInBounds_ne (by omega)];exact h.c6
 ·by_cases e:i=j
  ·subst e
   rw [Array.getElem?_setIfInBounds_self_of_lt (by have:=h.size;omega)]
   simp [frSet]
  ·rw [Array.getElem?_setIfInBounds_ne (by omega),h.fr i hi]
   simp [frSet,e]
 ·have hw:=h.wd i p u hp hu
  exact ⟨hw.1.kept F (fun k _ hk=>.inl (fun e=>hk (.inl e))) (fun _ _ h=>h),hw.2.kept F (fun k _ hk=>.inl (fun e=>hk (.inl e))) (fun _ _ h=>h)⟩
end
section
variable (B:Bk) (S:Nat->Prop) (M:PM) (K:RM) (cs:Array Value) (rv:Nat->Value) (sl:List (Sv×Sv×Value)) (t s n:Nat) (w:World)
theorem cell_ok (h:MH w B S M K cs rv sl t s n) (k e f:Nat) (hk:k < 6) (he:e < 4) (hf8:f < 8) (rt:Int) (hf:la (findLf K.leaves s k)=f) (hb:(bits .and .i64 (lb (findLf K.leaves s k)) rt == rt)=true) :
  Calls Tryz.prog 118 #[.pointer (some ⟨B.x,0,none⟩),.int .i64 k,.int .i64 e,.int .i64 rt] w fun e' w'=>e'=.returned (.tuple #[.pointer (some ⟨B.x,7+f*4+e,none⟩),.nilIface])/\Below w.heap.size w w':=by
 have HP:=hid (page_yes B S M K cs rv sl t s n w h k hk)
 have d1:decide (0<=(e:Int)/\(e:Int) < 4)=true:=by simp;omega
 have e4:(e:Int) < 4:=by omega
 have f8:(f:Int) < 8:=by omega
 have CC:Hid (∀ w2,Below w.heap.size w w2->w2.cell? ⟨B.gs,s*30+12+k*3,none⟩=some (.int .i64 f)/\w2.cell? ⟨B.gs,s*30+12+k*3+1,none⟩=some (.int .i64 (lb (findLf K.leaves s k)))):=fun w2 b=>by
  have:=(h.below b).page hk
  rw [hf] at this
  exact ⟨this.1,this.2.1⟩
 generalize lb (findLf K.leaves s k)=r at *
 clear h hf
 go_enter Tryz.func118,Tryz.ntmps118
 go_wp2_with (first
  | (go_at_call 143;refine HP.out.mono ?_;rintro e' w2 ⟨rfl,B2⟩;have cc:=CC.out w2 B2;have c1:=cc.1;have c2:=cc.2;clear cc;replace B2:=hid B2)
  | (go_at_call 149;refine (below_any _ _ _).mono ?_;rintro e' w3 ⟨rfl,rfl⟩;rw [d1])
  | (go_at_call 137;refine (coreHolds_any _ _ _).mono ?_;rintro e' w3 ⟨rfl,rfl⟩;rw [hb]))
 go_quiet (fail)
 go_wp2
 go_ret2
 exact ⟨rfl,below_drewN B2.out _⟩
theorem cell_fault (h:MH w B S M K cs rv sl t s n) (k e:Nat) (hk:k < 6) (he:e < 4) (rt:Int) (hb:(bits .and .i64 (lb (findLf K.leaves s k)) rt == rt)=false) :
  Calls Tryz.prog 118 #[.pointer (some ⟨B.x,0,none⟩),.int .i64 k,.int .i64 e,.int .i64 rt] w fun e' w'=>e'=.returned (.tuple #[.pointer none,.iface 160 (.agg #[.int .i64 7])])/\Below w.heap.size w w':=by
 have HP:=hid (page_yes B S M K cs rv sl t s n w h k hk)
 have d1:decide (0<=(e:Int)/\(e:Int) < 4)=true:=by simp;omega
 have CC:Hid (∀ w2,Below w.heap.size w w2->w2.cell? ⟨B.gs,s*30+12+k*3+1,none⟩=some (.int .i64 (lb (findLf K.leaves s k)))):=fun w2 b=>((h.below b).page hk).2.1
 generalize lb (findLf K.leaves s k)=r at *
 clear h
 go_enter Tryz.func118,Tryz.ntmps118
 go_wp2_with (first
  | (go_at_call 143;refine HP.out.mono ?_;rintro e' w2 ⟨rfl,B2⟩;have c2:=CC.out w2 B2;replace B2:=hid B2)
  | (go_at_call 149;refine (below_any _ _ _).mono ?_;rintro e' w3 ⟨rfl,rfl⟩;rw [d1])
  | (go_at_call 137;refine (coreHolds_any _ _ _).mono ?_;rintro e' w3 ⟨rfl,rfl⟩;rw [hb]))
 go_ret2
 exact ⟨rfl,B2.out⟩
theorem cell_cell (h:MH w B S M K cs rv sl t s n) (k:Nat) (e:Int) (hk:k < 6) (he:¬ (0<=e/\e < 4)) (rt:Int) :
  Calls Tryz.prog 118 #[.pointer (some ⟨B.x,0,none⟩),.int .i64 k,.int .i64 e,.int .i64 rt] w fun e' w'=>e'=.returned (.tuple #[.pointer none,E3])/\Below w.heap.size w w':=by
 have HP:=hid (page_yes B S M K cs rv sl t s n w h k hk)
 have d1:decide (0<=e/\e < 4)=false:=by simpa using he
 clear h he
 go_enter Tryz.func118,Tryz.ntmps118
 go_wp2_with (first
  | (go_at_call 143;refine HP.out.mono ?_;rintro e' w2 ⟨rfl,B2⟩;replace B2:=hid B2)
  | (go_at_call 149;refine (below_any _ _ _).mono ?_;rintro e' w3 ⟨rfl,rfl⟩;rw [d1]))
 go_ret2
 exact ⟨rfl,B2.out⟩
theorem cell_page (h:MH w B S M K cs rv sl t s n) (k e:Int) (hk:¬ (0<=k/\k < 6)) (rt:Int) :
  Calls Tryz.prog 118 #[.pointer (some ⟨B.x,0,none⟩),.int .i64 k,.int .i64 e,.int .i64 rt] w fun e' w'=>e'=.returned (.tuple #[.pointer none,E3])/\Below w.heap.size w w':=by
 have HP:=hid (page_no B S M K cs rv sl t s n w h k hk)
 have hne:=e3_ne
 clear h hk
 go_enter Tryz.func118,Tryz.ntmps118
 go_wp2_with (go_at_call 143;refine HP.out.mono ?_;rintro e' w2 ⟨rfl,B2⟩;replace B2:=hid B2)
 go_ret2
 exact ⟨rfl,B2.out⟩
end
theorem cell_any (B:Bk) (S:Nat->Prop) (K:RM) (n:Nat) (w:World) (h:KR w B S K) (ok:K.Ok n) (pg ce rt:Int) (hrt:rt=1\/rt=2) :
  Calls Tryz.prog 118 #[.pointer (some ⟨B.x,0,none⟩),.int .i64 pg,.int .i64 ce,.int .i64 rt] w fun e' w'=>Below w.heap.size w w'/\((∃ f e:Nat,f < 8/\e < 4/\ce=e/\K.touch pg ce rt=((f:Int),0)/\e'=.returned (.tuple #[.pointer (some ⟨B.x,7+f*4+e,none⟩),.nilIface]))\/(∃ cd,cd≠0/\K.touch pg ce rt=(0,cd)/\e'=.returned (.tuple #[.pointer none,.iface 160 (.agg #[.int .i64 cd])]))):=by
 by_cases hc:K.cur < 0
 ·refine (cell_none B S K w h ok.ft hc pg ce rt).mono ?_
  rintro e' w' ⟨rfl,b⟩
  exact ⟨b,.inr ⟨2,by omega,by unfold RM.touch;rw [if_pos hc],rfl⟩⟩
 obtain ⟨M,cs,rv,sl,t,s,h⟩:=MH.of h ok hc
 by_cases hp:0<=pg/\pg < 6
 ·obtain ⟨k,rfl⟩:=Int.eq_ofNat_of_zero_le hp.1
  have hk:k < 6:=by omega
  by_cases he:0<=ce/\ce < 4
  ·obtain ⟨e,rfl⟩:=Int.eq_ofNat_of_zero_le he.1
   have he4:e < 4:=by omega
   have i1:inI (k:Int) 0 5=true/\inI (e:Int) 0 3=true:=⟨inI_true.2 (by omega),inI_true.2 (by omega)⟩
   have T:K.touch k e rt=match findLf K.leaves s k with | some p=>if bits .and .i64 p.rt rt=0 then (0,7) else (p.fr,0) | none=>(0,7):=by unfold RM.touch;rw [if_neg hc,if_pos i1,h.h];rfl
   have hb:=bits_one (lb_rt ok.lf s k) hrt
   rcases hf:findLf K.leaves s k with _ | p
   ·rw [hf] at T
    refine (cell_fault B S M K cs rv sl t s n w h k e hk he4 rt (by rw [hf];rcases hrt with rfl | rfl <;> rfl)).mono ?_
    rintro e' w' ⟨rfl,B⟩
    exact ⟨B,.inr ⟨7,by omega,T,rfl⟩⟩
   ·rw [hf] at T
    have ho:=ok.lf p (findLf_mem hf).1
    unfold okLf at ho
    obtain ⟨f,hfe⟩:=Int.eq_ofNat_of_zero_le ho.1
    by_cases hh:bits .and .i64 p.rt rt=0
    ·simp only [hh,if_true] at T
     refine (cell_fault B S M K cs rv sl t s n w h k e hk he4 rt (by rw [hb,hf];simp [lb,hh])).mono ?_
     rintro e' w' ⟨rfl,B⟩
     exact ⟨B,.inr ⟨7,by omega,T,rfl⟩⟩
    ·simp only [hh,if_false] at T
     refine (cell_ok B S M K cs rv sl t s n w h k e f hk he4 (by omega) rt (by rw [hf];exact hfe) (by rw [hb,hf];simp [lb,hh])).mono ?_
     rintro e' w' ⟨rfl,B⟩
     exact ⟨B,.inl ⟨f,e,by omega,he4,rfl,by rw [T,hfe],rfl⟩⟩
  ·have T:K.touch k ce rt=(0,3):=by
    unfold RM.touch;rw [if_neg hc,if_neg];intro hc;have:=inI_true.1 hc.2;omega
   refine (cell_cell B S M K cs rv sl t s n w h k ce hk he rt).mono ?_
   rintro e' w' ⟨rfl,B⟩
   exact ⟨B,.inr ⟨3,by omega,T,rfl⟩⟩
 ·have T:K.touch pg ce rt=(0,3):=by
   unfold RM.touch;rw [if_neg hc,if_neg];intro hc;have:=inI_true.1 hc.1;omega
  refine (cell_page B S M K cs rv sl t s n w h pg ce hp rt).mono ?_
  rintro e' w' ⟨rfl,B⟩
  exact ⟨B,.inr ⟨3,by omega,T,rfl⟩⟩
section
variable (B:Bk) (S:Nat->Prop) (K:RM) (n:Nat) (w:World)
theorem mLoad_any (h:KR w B S K) (ok:K.Ok n) (pg ce:Int) :
  Calls Tryz.prog 76 #[.pointer (some ⟨B.x,0,none⟩),.int .i64 pg,.int .i64 ce] w fun e w'=>Below w.heap.size w w'/\((∃ v,K.load pg ce=(v,0)/\e=.returned (.tuple #[.int .i64 v,.nilIface]))\/(∃ cd st,K.load pg ce=(0,cd)/\e=.returned (.tuple #[.int .i64 0,.iface 166 (.agg #[.string st,.iface 160 (.agg #[.int .i64 cd])])]))):=by
 have HC:=hid (cell_any B S K n w h ok pg ce 1 (.inl rfl))
 have HH:=hid h
 clear h ok
 go_enter Tryz.func76,Tryz.ntmps76
 go_wp2_with fail
 refine HC.out.mono ?_
 rintro e w2 ⟨B2,⟨f,e2,hf8,he4,rfl,T,rfl⟩ | ⟨cd,hcd,T,rfl⟩⟩
 ·obtain ⟨M,⟨cs,rv,sl,m,_⟩,R⟩:=HH.out.below B2
  have hc:w2.cell? ⟨B.x,7+f*4+e2,none⟩=some (.int .i64 (K.fr (f*4+e2))):=by
   have:=(m.cell (7+(f*4+e2))).trans (m.fr (f*4+e2) (by omega))
   rw [<- Nat.add_assoc,R.fr] at this
   exact this
  have E:=hid (show K.load pg e2=(K.fr (f*4+e2),0) by simp [RM.load,T])
  have HB:=hid B2
  clear T B2 m R
  go_wp2
  go_ret2
  exact ⟨HB.out,.inl ⟨_,E.out,rfl⟩⟩
 ·have E:=hid (show K.load pg ce=(0,cd) by simp [RM.load,T,hcd])
  have HB:=hid B2
  clear T B2 hcd
  go_wp2
  go_ret2
  exact ⟨HB.out,.inr ⟨cd,_,E.out,rfl⟩⟩
theorem mStore_any (h:KR w B S K) (ok:K.Ok n) (pg ce v:Int) :
  Calls Tryz.prog 74 #[.pointer (some ⟨B.x,0,none⟩),.int .i64 pg,.int .i64 ce,.int .i64 v] w fun e w'=>Ans (K.touch pg ce 2).2 e w w'/\KLeft B S none_ (K.stored pg ce v) w w':=by
 have HC:=hid (cell_any B S K n w h ok pg ce 2 (.inr rfl))
 have HH:=hid h
 clear h ok
 go_enter Tryz.func74,Tryz.ntmps74
 go_wp2_with fail
 refine HC.out.mono ?_
 rintro e w2 ⟨B2,⟨f,e2,hf8,he4,rfl,T,rfl⟩ | ⟨cd,hcd,T,rfl⟩⟩
 ·obtain ⟨M,⟨cs,rv,sl,hm,hS⟩,R⟩:=HH.out.below B2
  have hc:w2.cell? ⟨B.x,7+f*4+e2,none⟩=some (.int .i64 (M.fr (f*4+e2))):=by
   have:=(hm.cell (7+(f*4+e2))).trans (hm.fr (f*4+e2) (by omega))
   rw [<- Nat.add_assoc] at this
   exact this
  have hf:=hm.fro (7+f*4+e2)
  have ST:=hm.setFr (f*4+e2) (by omega) v
  rw [<- Nat.add_assoc] at ST
  have E1:=hid (show (K.touch pg e2 2).2=0 by rw [T])
  have E2:=hid (show K.stored pg e2 v={ K with fr:=frSet K.fr (f*4+e2) v } by simp [RM.stored,T])
  have RR:Rel none_ { M with fr:=frSet M.fr (f*4+e2) v } { K with fr:=frSet K.fr (f*4+e2) v }:=⟨R.len,R.th,R.rows,R.wl,R.sp,R.ps,R.lf,by show frSet M.fr _ _=frSet K.fr _ _;rw [R.fr],R.cl⟩
  have HB:=hid (And.intro B2 (And.intro ST (And.intro RR hS)))
  clear T B2 hm ST RR R hS
  go_wp2
  go_ret
  rw [E2.out]
  obtain ⟨b,ST,RR,hS⟩:=HB.out
  exact ⟨.inl ⟨E1.out,rfl⟩,_,⟨⟨S,⟨_,rv,sl,ST.1,hS⟩,fun _ h=>.inl h⟩,(Fr.of_below b _).trans (ST.2.mono (fun k _ e=>(hS k).2 (.inl (.inl e))))⟩,RR⟩
 ·have E1:=hid (show (K.touch pg ce 2).2=cd by rw [T])
  have E2:=hid (show K.stored pg ce v=K by simp [RM.stored,T,hcd])
  have HB:=hid B2
  clear T B2 hcd
  go_wp2
  go_ret
  rw [E1.out,E2.out]
  exact ⟨.inr ⟨_,rfl,HB.out⟩,HH.out.left HB.out⟩
end
open Go.RowKit
section
variable (B:Bk) (S:Nat->Prop) (M:PM) (K:RM) (cs:Array Value) (rv:Nat->Value) (sl:List (Sv×Sv×Value)) (t s n:Nat) (w:World)
theorem leaf_any (h:MH w B S M K cs rv sl t s n) (hc:¬ K.cur < 0) (pg:Int) :
  Calls Tryz.prog 90 #[.pointer (some ⟨B.x,0,none⟩),.int .i64 pg] w fun e w'=>Below w.heap.size w w'/\((∃ (k:Nat) (p:Lf),k < 6/\pg=k/\findLf K.leaves s k=some p/\e=.returned (.tuple #[.pointer (some ⟨B.gs,s*30+12+k*3,none⟩),.nilIface]))\/(∃ cd,(∀ own,K.unmap pg own=(cd,K))/\cd≠0/\e=.returned (.tuple #[.pointer none,.iface 160 (.agg #[.int .i64 cd])]))):=by
 by_cases hp:0<=pg/\pg < 6
 ·obtain ⟨k,rfl⟩:=Int.eq_ofNat_of_zero_le hp.1
  have hk:k < 6:=by omega
  have i1:inI (k:Int) 0 5=true:=inI_true.2 (by omega)
  have HP:=hid (page_yes B S M K cs rv sl t s n w h k hk)
  have CC:Hid (∀ w2,Below w.heap.size w w2->w2.cell? ⟨B.gs,s*30+12+k*3+1,none⟩=some (.int .i64 (lb (findLf K.leaves s k)))):=fun w2 b=>((h.below b).page hk).2.1
  rcases hf:findLf K.leaves s k with _ | p
  ·have E:∀ own,K.unmap k own=(8,K):=fun own=>by unfold RM.unmap;rw [if_neg hc,if_pos i1,h.h,hf]
   have HE:=hid E
   rw [hf] at CC
   clear h hf E hp hc
   go_enter Tryz.func90,Tryz.ntmps90
   go_wp2_with (go_at_call 143;refine HP.out.mono ?_;rintro e' w2 ⟨rfl,B2⟩;have c2:w2.cell? ⟨B.gs,s*30+12+k*3+1,none⟩=some (.int .i64 0):=CC.out w2 B2;replace B2:=hid B2)
   go_ret2
   exact ⟨B2.out,.inr ⟨8,HE.out,by omega,rfl⟩⟩
  ·have h4:=h.ok.lf p (findLf_mem hf).1
   unfold okLf at h4
   have hz:(p.rt == 0)=false:=by simp;omega
   rw [hf] at CC
   simp only [lb] at CC
   have HF:=hid hf
   clear h hf hp h4 hc
   go_enter Tryz.func90,Tryz.ntmps90
   go_wp2_with (go_at_call 143;refine HP.out.mono ?_;rintro e' w2 ⟨rfl,B2⟩;have c2:=CC.out w2 B2;replace B2:=hid B2)
   go_ret2
   exact ⟨B2.out,.inl ⟨k,p,hk,rfl,HF.out,rfl⟩⟩
 ·have E:∀ own,K.unmap pg own=(3,K):=fun own=>by
   unfold RM.unmap;rw [if_neg hc,if_neg];intro hc;have:=inI_true.1 hc;omega
  have HE:=hid E
  have HP:=hid (page_no B S M K cs rv sl t s n w h pg hp)
  have hne:=e3_ne
  clear h E hp hc
  go_enter Tryz.func90,Tryz.ntmps90
  go_wp2_with (go_at_call 143;refine HP.out.mono ?_;rintro e' w2 ⟨rfl,B2⟩;replace B2:=hid B2)
  go_ret2
  exact ⟨B2.out,.inr ⟨3,HE.out,by omega,rfl⟩⟩
end
section
variable (B:Bk) (S:Nat->Prop) (K:RM) (n:Nat) (w:World)
theorem leafK (h:KR w B S K) (ok:K.Ok n) (pg:Int) :
  Calls Tryz.prog 90 #[.pointer (some ⟨B.x,0,none⟩),.int .i64 pg] w fun e w'=>Below w.heap.size w w'/\((∃ (s k:Nat),k < 6/\s < K.sp.toNat/\(∀ own,K.unmap pg own=(0,{ K with leaves:=goneL K.leaves s k own }))/\e=.returned (.tuple #[.pointer (some ⟨B.gs,s*30+12+k*3,none⟩),.nilIface]))\/(∃ cd,(∀ own,K.unmap pg own=(cd,K))/\cd≠0/\e=.returned (.tuple #[.pointer none,.iface 160 (.agg #[.int .i64 cd])]))):=by
 by_cases hc:K.cur < 0
 ·refine (leaf_none B S K w h ok.ft hc pg).mono ?_
  rintro e w' ⟨rfl,b⟩
  exact ⟨b,.inr ⟨2,fun own=>by unfold RM.unmap;rw [if_pos hc],by omega,rfl⟩⟩
 ·obtain ⟨M,cs,rv,sl,t,s,h⟩:=MH.of h ok hc
  refine (leaf_any B S M K cs rv sl t s n w h hc pg).mono ?_
  rintro e w' ⟨b,⟨k,p,hk,rfl,hf,rfl⟩ | h2⟩
  ·refine ⟨b,.inl ⟨s,k,hk,by have:=h.lt;rw [h.r.sp] at this;exact this,fun own=>?_,rfl⟩⟩
   have i1:inI (k:Int) 0 5=true:=inI_true.2 (by omega)
   unfold RM.unmap;rw [if_neg hc,if_pos i1,h.h,hf]
  ·exact ⟨b,.inr h2⟩
theorem takeBackK (h:KR w B S K) (ft:K.Fit) (s k:Nat) (hk:k < 6) (hs:s < K.sp.toNat) :
  Calls Tryz.prog 91 #[.pointer (some ⟨B.x,0,none⟩),.pointer (some ⟨B.gs,s*30+12+k*3,none⟩)] w fun e w'=>e=.returned (.tuple #[])/\∃ M cs rv sl,Took B M (goneL M.leaves s k false) cs rv sl w w'/\Rel none_ M K/\∀ b,S b↔POwn B M.threads.length rv sl b:=by
 obtain ⟨M,⟨cs,rv,sl,m,hS⟩,R⟩:=h
 obtain ⟨rk,lo⟩:=LOk.of ft
 refine (takeBack_any _ B M cs rv sl s k w rk m (by rw [R.sp,R.lf];exact lo) (by rw [R.sp];exact hs) hk (by rw [R.sp];exact ft.sp3) (Nat.lt_succ_self _)).mono ?_
 rintro e w' ⟨rfl,T⟩
 exact ⟨rfl,M,cs,rv,sl,T,R,hS⟩
theorem mUnmap_any (h:KR w B S K) (ok:K.Ok n) (pg:Int) (own:Bool) :
  Calls Tryz.prog 53 #[.pointer (some ⟨B.x,0,none⟩),.int .i64 pg,.bool own] w fun e w'=>Ans (K.unmap pg own).1 e w w'/\KLeft B S none_ (K.unmap pg own).2 w w':=by
 have HC:=hid (leafK B S K n w h ok pg)
 have HH:=hid (And.intro h ok)
 clear h ok
 go_enter Tryz.func53,Tryz.ntmps53
 go_wp2_with fail
 refine HC.out.mono ?_
 rintro e w2 ⟨B2,⟨s,k,hk,hs,E,rfl⟩ | ⟨cd,T,hcd,rfl⟩⟩
 ·have HB2:=hid B2
  have HE:=hid (And.intro hk (And.intro hs (E own)))
  clear B2 hk hs E
  have HT:=hid (takeBackK B S K w2 (HH.out.1.below HB2.out) HH.out.2.ft s k HE.out.1 HE.out.2.1)
  cases own with
  | true=>
   go_wp2_with (go_at_call 91;refine HT.out.mono ?_;rintro e w3 ⟨rfl,M,cs,rv,sl,T3,R3,hS3⟩;have hs3:s < M.sp.toNat:=by { rw [R3.sp];exact HE.out.2.1 };have pc:=T3.1.pageC (s:=s) (j:=k) hs3 HE.out.1;have c0:=pc.1;have c1:=pc.2.1;have c2:=pc.2.2;have fz:=T3.1.sfro;have H3:=hid (And.intro T3 (And.intro R3 (And.intro hS3 hs3)));clear pc T3 R3 hS3 hs3)
   go_ret
   obtain ⟨T3,R3,hS3,hs3⟩:=H3.out
   have P:=T3.1.setPage (s:=s) (j:=k) (o:=none) (L':=goneL M.leaves s k true) hs3 HE.out.1 (fun a b=>by rw [gone_own,find_out])
   rw [HE.out.2.2]
   refine ⟨.inl ⟨rfl,rfl⟩,{ M with leaves:=goneL M.leaves s k true },⟨⟨S,⟨cs,rv,sl,P.1,hS3⟩,fun _ h=>.inl h⟩,(Fr.of_below HB2.out S).trans ((T3.2.trans P.2).mono (fun k _ e=>(hS3 k).2 (.inl (.inr (.inr (.inl e))))))⟩,⟨R3.len,R3.th,R3.rows,R3.wl,R3.sp,R3.ps,by show goneL M.leaves _ _ _=goneL K.leaves _ _ _;rw [R3.lf],R3.fr,R3.cl⟩⟩
  | false=>
   go_wp2_with (go_at_call 91;refine HT.out.mono ?_;rintro e w3 ⟨rfl,H3⟩;replace H3:=hid H3)
   go_ret
   obtain ⟨M,cs,rv,sl,T3,R3,hS3⟩:=H3.out
   rw [HE.out.2.2]
   refine ⟨.inl ⟨rfl,rfl⟩,{ M with leaves:=goneL M.leaves s k false },⟨⟨S,⟨cs,rv,sl,T3.1,hS3⟩,fun _ h=>.inl h⟩,(Fr.of_below HB2.out S).trans (T3.2.mono (fun k _ e=>(hS3 k).2 (.inl (.inr (.inr (.inl e))))))⟩,⟨R3.len,R3.th,R3.rows,R3.wl,R3.sp,R3.ps,by show goneL M.leaves _ _ _=goneL K.leaves _ _ _;rw [R3.lf],R3.fr,R3.cl⟩⟩
 ·have E:=hid (T own)
  have HB:=hid B2
  clear B2 T hcd
  go_wp2
  go_ret
  rw [E.out]
  exact ⟨.inr ⟨_,rfl,HB.out⟩,HH.out.1.left HB.out⟩
end
end Go.Proofs.YteejjgbeknnmeaaGreatDoor
