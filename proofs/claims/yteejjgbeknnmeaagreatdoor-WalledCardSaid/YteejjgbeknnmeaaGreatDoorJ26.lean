import Derived.Test.YteejjgbeknnmeaaGreatDoorJ17
set_option maxRecDepth 100000
set_option maxHeartbeats 20000000
namespace Go.Proofs.YteejjgbeknnmeaaGreatDoor
open Go.RowKit
section
variable (B:Bk) (S:Nat->Prop) (M:PM) (K:RM) (cs:Array Value) (rv:Nat->Value) (sl:List (Sv×Sv×Value)) (t s n:Nat) (w:World)
theorem leaf_any (h:MH w B S M K cs rv sl t s n) (hc:¬ K.cur < 0) (pg:Int) :
  Calls Tryz.prog 90 #[.pointer (some ⟨B.x,0,none⟩),.int .i64 pg] w fun e w'=>Below w.heap.size w w'/\((∃ (k:Nat) (p:Lf),k < 6/\pg=k/\findLf K.leaves s k=some p/\e=.returned (.tuple #[.pointer (some ⟨B.gs,s*30+12+k*3,none⟩),.nilIface]))\/(∃ cd,(∀ own,K.unmap pg own=(cd,K))/\cd≠0/\e=.returned (.tuple #[.pointer none,.iface 160 (.agg #[.int .i64 cd])]))):=by
 by_cases hp:0<=pg/\pg < 6
 ·obtain ⟨k,rfl⟩:=Int.eq_ofNat_of_zero_le hp.1
  have hk:k < 6:=by omega
  have i1:inI (k:Int) 0 5=true:=inI_true.2 (by omega)
  have HP:=hid (page_yes B S M K cs rv sl t s n w h k hk)
  have CC:Hid (∀ w2,Below w.heap.size w w2->w2.cell? ⟨B.gs,s*30+12+k*3+1,none⟩=some (.int .i64 (lb (findLf K.leaves s k)))):=fun w2 b=>((h.below b).page hk).2.1
  rcases hf:findLf K.leaves s k with _ | p
  ·have E:∀ own,K.unmap k own=(8,K):=fun own=>by unfold RM.unmap;rw [if_neg hc,if_pos i1,h.h,hf]
   have HE:=hid E
   rw [hf] at CC
   clear h hf E hp hc
   go_enter Tryz.func90,Tryz.ntmps90
   go_wp2_with (go_at_call 143;refine HP.out.mono ?_;rintro e' w2 ⟨rfl,B2⟩;have c2:w2.cell? ⟨B.gs,s*30+12+k*3+1,none⟩=some (.int .i64 0):=CC.out w2 B2;replace B2:=hid B2)
   go_ret2
   exact ⟨B2.out,.inr ⟨8,HE.out,by omega,rfl⟩⟩
  ·have h4:=h.ok.lf p (findLf_mem hf).1
   unfold okLf at h4
   have hz:(p.rt == 0)=false:=by simp;omega
   rw [hf] at CC
   simp only [lb] at CC
   have HF:=hid hf
   clear h hf hp h4 hc
   go_enter Tryz.func90,Tryz.ntmps90
   go_wp2_with (go_at_call 143;refine HP.out.mono ?_;rintro e' w2 ⟨rfl,B2⟩;have c2:=CC.out w2 B2;replace B2:=hid B2)
   go_ret2
   exact ⟨B2.out,.inl ⟨k,p,hk,rfl,HF.out,rfl⟩⟩
 ·have E:∀ own,K.unmap pg own=(3,K):=fun own=>by
   unfold RM.unmap;rw [if_neg hc,if_neg];intro hc;have:=inI_true.1 hc;omega
  have HE:=hid E
  have HP:=hid (page_no B S M K cs rv sl t s n w h pg hp)
  have hne:=e3_ne
  clear h E hp hc
  go_enter Tryz.func90,Tryz.ntmps90
  go_wp2_with (go_at_call 143;refine HP.out.mono ?_;rintro e' w2 ⟨rfl,B2⟩;replace B2:=hid B2)
  go_ret2
  exact ⟨B2.out,.inr ⟨3,HE.out,by omega,rfl⟩⟩
end
section
variable (B:Bk) (S:Nat->Prop) (K:RM) (n:Nat) (w:World)
theorem leafK (h:KR w B S K) (ok:K.Ok n) (pg:Int) :
  Calls Tryz.prog 90 #[.pointer (some ⟨B.x,0,none⟩),.int .i64 pg] w fun e w'=>Below w.heap.size w w'/\((∃ (s k:Nat),k < 6/\s < K.sp.toNat/\(∀ own,K.unmap pg own=(0,{ K with leaves:=goneL K.leaves s k own }))/\e=.returned (.tuple #[.pointer (some ⟨B.gs,s*30+12+k*3,none⟩),.nilIface]))\/(∃ cd,(∀ own,K.unmap pg own=(cd,K))/\cd≠0/\e=.returned (.tuple #[.pointer none,.iface 160 (.agg #[.int .i64 cd])]))):=by
 by_cases hc:K.cur < 0
 ·refine (leaf_none B S K w h ok.ft hc pg).mono ?_
  rintro e w' ⟨rfl,b⟩
  exact ⟨b,.inr ⟨2,fun own=>by unfold RM.unmap;rw [if_pos hc],by omega,rfl⟩⟩
 ·obtain ⟨M,cs,rv,sl,t,s,h⟩:=MH.of h ok hc
  refine (leaf_any B S M K cs rv sl t s n w h hc pg).mono ?_
  rintro e w' ⟨b,⟨k,p,hk,rfl,hf,rfl⟩ | h2⟩
  ·refine ⟨b,.inl ⟨s,k,hk,by have:=h.lt;rw [h.r.sp] at this;exact this,fun own=>?_,rfl⟩⟩
   have i1:inI (k:Int) 0 5=true:=inI_true.2 (by omega)
   unfold RM.unmap;rw [if_neg hc,if_pos i1,h.h,hf]
  ·exact ⟨b,.inr h2⟩
theorem takeBackK (h:KR w B S K) (ft:K.Fit) (s k:Nat) (hk:k < 6) (hs:s < K.sp.toNat) :
  Calls Tryz.prog 91 #[.pointer (some ⟨B.x,0,none⟩),.pointer (some ⟨B.gs,s*30+12+k*3,none⟩)] w fun e w'=>e=.returned (.tuple #[])/\∃ M cs rv sl,Took B M (goneL M.leaves s k false) cs rv sl w w'/\Rel none_ M K/\∀ b,S b↔POwn B M.threads.length rv sl b:=by
 obtain ⟨M,⟨cs,rv,sl,m,hS⟩,R⟩:=h
 obtain ⟨rk,lo⟩:=LOk.of ft
 refine (takeBack_any _ B M cs rv sl s k w rk m (by rw [R.sp,R.lf];exact lo) (by rw [R.sp];exact hs) hk (by rw [R.sp];exact ft.sp3) (Nat.lt_succ_self _)).mono ?_
 rintro e w' ⟨rfl,T⟩
 exact ⟨rfl,M,cs,rv,sl,T,R,hS⟩
theorem mUnmap_any (h:KR w B S K) (ok:K.Ok n) (pg:Int) (own:Bool) :
  Calls Tryz.prog 53 #[.pointer (some ⟨B.x,0,none⟩),.int .i64 pg,.bool own] w fun e w'=>Ans (K.unmap pg own).1 e w w'/\KLeft B S none_ (K.unmap pg own).2 w w':=by
 have HC:=hid (leafK B S K n w h ok pg)
 have HH:=hid (And.intro h ok)
 clear h ok
 go_enter Tryz.func53,Tryz.ntmps53
 go_wp2_with fail
 refine HC.out.mono ?_
 rintro e w2 ⟨B2,⟨s,k,hk,hs,E,rfl⟩ | ⟨cd,T,hcd,rfl⟩⟩
 ·have HB2:=hid B2
  have HE:=hid (And.intro hk (And.intro hs (E own)))
  clear B2 hk hs E
  have HT:=hid (takeBackK B S K w2 (HH.out.1.below HB2.out) HH.out.2.ft s k HE.out.1 HE.out.2.1)
  cases own with
  | true=>
   go_wp2_with (go_at_call 91;refine HT.out.mono ?_;rintro e w3 ⟨rfl,M,cs,rv,sl,T3,R3,hS3⟩;have hs3:s < M.sp.toNat:=by { rw [R3.sp];exact HE.out.2.1 };have pc:=T3.1.pageC (s:=s) (j:=k) hs3 HE.out.1;have c0:=pc.1;have c1:=pc.2.1;have c2:=pc.2.2;have fz:=T3.1.sfro;have H3:=hid (And.intro T3 (And.intro R3 (And.intro hS3 hs3)));clear pc T3 R3 hS3 hs3)
   go_ret
   obtain ⟨T3,R3,hS3,hs3⟩:=H3.out
   have P:=T3.1.setPage (s:=s) (j:=k) (o:=none) (L':=goneL M.leaves s k true) hs3 HE.out.1 (fun a b=>by rw [gone_own,find_out])
   rw [HE.out.2.2]
   refine ⟨.inl ⟨rfl,rfl⟩,{ M with leaves:=goneL M.leaves s k true },⟨⟨S,⟨cs,rv,sl,P.1,hS3⟩,fun _ h=>.inl h⟩,(Fr.of_below HB2.out S).trans ((T3.2.trans P.2).mono (fun k _ e=>(hS3 k).2 (.inl (.inr (.inr (.inl e))))))⟩,⟨R3.len,R3.th,R3.rows,R3.wl,R3.sp,R3.ps,by show goneL M.leaves _ _ _=goneL K.leaves _ _ _;rw [R3.lf],R3.fr,R3.cl⟩⟩
  | false=>
   go_wp2_with (go_at_call 91;refine HT.out.mono ?_;rintro e w3 ⟨rfl,H3⟩;replace H3:=hid H3)
   go_ret
   obtain ⟨M,cs,rv,sl,T3,R3,hS3⟩:=H3.out
   rw [HE.out.2.2]
   refine ⟨.inl ⟨rfl,rfl⟩,{ M with leaves:=goneL M.leaves s k false },⟨⟨S,⟨cs,rv,sl,T3.1,hS3⟩,fun _ h=>.inl h⟩,(Fr.of_below HB2.out S).trans (T3.2.mono (fun k _ e=>(hS3 k).2 (.inl (.inr (.inr (.inl e))))))⟩,⟨R3.len,R3.th,R3.rows,R3.wl,R3.sp,R3.ps,by show goneL M.leaves _ _ _=goneL K.leaves _ _ _;rw [R3.lf],R3.fr,R3.cl⟩⟩
 ·have E:=hid (T own)
  have HB:=hid B2
  clear B2 T hcd
  go_wp2
  go_ret
  rw [E.out]
  exact ⟨.inr ⟨_,rfl,HB.out⟩,HH.out.1.left HB.out⟩
end
end Go.Proofs.YteejjgbeknnmeaaGreatDoor
