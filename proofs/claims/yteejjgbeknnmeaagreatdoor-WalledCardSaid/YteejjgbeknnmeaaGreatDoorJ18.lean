import Derived.Test.YteejjgbeknnmeaaGreatDoorJ13
import Derived.Test.YteejjgbeknnmeaaGreatDoorJ01
import Derived.Deep.QuietTactic
import Derived.BigQuiet
import Derived.Test.YteejjgbeknnmeaaGreatDoorJ17
import Derived.Test.YteejjgbeknnmeaaGreatDoorJ03
set_option maxRecDepth 100000
set_option maxHeartbeats 20000000
namespace Go.Proofs.YteejjgbeknnmeaaGreatDoor
open Go.RowKit
theorem between_any (n lo hi:Int) (w:World):Calls Tryz.prog 132 #[.int .i64 n,.int .i64 lo,.int .i64 hi] w fun e w'=>e=.returned (.bool (inI n lo hi))/\w'=w:=by
 unfold inI
 by_cases h1:lo<=n
 ·have d1:decide (lo<=n)=true:=by simpa using h1
  go_enter Tryz.func132,Tryz.ntmps132
  go_wp2
  go_ret
  exact ⟨by simp [h1],rfl⟩
 ·have d1:decide (lo<=n)=false:=by simpa using h1
  go_enter Tryz.func132,Tryz.ntmps132
  go_wp2
  go_ret
  exact ⟨by simp,rfl⟩
theorem btw {n lo hi:Int}{v:Bool}(f:inI n lo hi=v) (w:World):Calls Tryz.prog 132 #[.int .i64 n,.int .i64 lo,.int .i64 hi] w fun e w'=>e=.returned (.bool v)/\w'=w:=by rw [<- f];exact between_any n lo hi w
theorem msT {k:Nat}{m:Ms}(f1:inI m.dst (-1) 5=true) (f2:decide ((m.words.length:Int)<=4)=true) (f3:inI m.item (-1) 5=true) (f4:inI m.rt 0 3=true) (f5:inI m.frm (-2) ((k:Int)-1)=true) (f6:inI m.win (-1) 5=true) (f7:decide (-1<=m.wait)=true) (f8:(m.dst != -1)=true\/(m.frm != -2)=true):isMs k m=true:=by
 have a:=inI_true.1 f1
 have b:=inI_true.1 f5
 have e:(decide (0<=m.dst) || decide (-2 < m.frm))=true:=by
  simp at f8 ⊢
  omega
 simp only [isMs,f1,f2,f3,f4,f5,f6,f7,e,Bool.and_true]
theorem msF {k:Nat}{m:Ms}(f8:(m.dst != -1)=false) (f9:(m.frm != -2)=false):isMs k m=false:=by
 simp at f8 f9
 simp [isMs,f8,f9]
open Go.RowKit
theorem bits_all {r a:Int}(h:r=0\/r=1\/r=2\/r=3) (ha:a=1\/a=2\/a=3):(bits .and .i64 r a == a)=hasRt r a:=by
 rcases h with rfl | rfl | rfl | rfl <;> rcases ha with rfl | rfl | rfl <;> rfl
theorem findQ_mem {L:List (Int×Int×Int×Int)}{s n:Int}{p:Int×Int×Int×Int}(h:findQ L s n=some p):∃ i:Nat,L[i]? = some p:=List.getElem?_of_mem (List.mem_of_find?_eq_some h)
theorem pb_rt {L:List (Int×Int×Int×Int)}{sp h:Int}(ho:∀ (i:Nat) p,L[i]? = some p->okQ sp h p) (s n:Int):pb (findQ L s n)=0\/pb (findQ L s n)=1\/pb (findQ L s n)=2\/pb (findQ L s n)=3:=by
 rcases hf:findQ L s n with _ | p
 ·exact .inl rfl
 ·obtain ⟨i,hi⟩:=findQ_mem hf
  have:=ho i p hi
  have h1:=this.2.2.2.2.2.2.1
  have h2:=this.2.2.2.2.2.2.2
  simp only [pb]
  omega
theorem passes_left {w w2 w':World} {B:Bk} {S:Nat->Prop} {M:PM} {K:RM} {cs:Array Value} {rv:Nat->Value} {sl:List (Sv×Sv×Value)} {t s n:Nat} {Q:List (Int×Int×Int×Int)} (h:MH w2 B S M K cs rv sl t s n) (b:Below w.heap.size w w2) (P:PmAt w' B { M with passes:=Q,leaves:=M.leaves } cs rv sl/\Fr (fun k=>k=B.gs) w2 w'):KLeft B S none_ { K with passes:=Q } w w':=
 ⟨_,⟨⟨S,⟨cs,rv,sl,P.1,h.hS⟩,fun _ h=>.inl h⟩,(Fr.of_below b S).trans (P.2.mono (fun k _ e=>(h.hS k).2 (.inl (.inr (.inr (.inl e))))))⟩,⟨h.r.len,h.r.th,h.r.rows,h.r.wl,h.r.sp,rfl,h.r.lf,h.r.fr,h.r.cl⟩⟩
section
variable (B:Bk) (S:Nat->Prop) (M:PM) (K:RM) (cs:Array Value) (rv:Nat->Value) (sl:List (Sv×Sv×Value)) (t s n:Nat) (w:World)
theorem drop_yes (h:MH w B S M K cs rv sl t s n) (hc:¬ K.cur < 0) (a:Int) :
  Calls Tryz.prog 88 #[.pointer (some ⟨B.x,0,none⟩),.int .i64 a] w fun e w'=>Ans (K.drop a).1 e w w'/\KLeft B S none_ (K.drop a).2 w w':=by
 have HH:=hid h
 have hne:=e3_ne
 have HN:=hid hc
 clear hc
 by_cases hp:0<=a/\a < 6
 ·obtain ⟨k,rfl⟩:=Int.eq_ofNat_of_zero_le hp.1
  have hk:k < 6:=by omega
  have i1:inI (k:Int) 0 5=true:=inI_true.2 (by omega)
  have HC:=hid (slot_yes B S M K cs rv sl t s n w h k hk)
  clear h hp
  go_enter Tryz.func88,Tryz.ntmps88
  go_wp2_with fail
  refine HC.out.mono ?_
  rintro e w2 ⟨rfl,B2⟩
  have KC:=(HH.out.below B2).slot hk
  have kp:=KC.1
  have kq:=KC.2
  clear KC
  rcases hf:findQ K.passes s k with _ | p
  ·have E:=hid (show K.drop k=(4,K) by unfold RM.drop;rw [if_neg (show ¬ K.cur < 0 by have:=HN.out;omega),if_pos i1,HH.out.h,hf])
   rw [hf] at kp kq
   simp only [pa,pb] at kp kq
   have HB:=hid B2
   clear B2 hf
   go_wp2
   go_ret
   rw [E.out]
   exact ⟨.inr ⟨_,rfl,HB.out⟩,HH.out.kr.left HB.out⟩
  ·have E:=hid (show K.drop k=(0,{ K with passes:=outQ K.passes s k }) by unfold RM.drop;rw [if_neg (show ¬ K.cur < 0 by have:=HN.out;omega),if_pos i1,HH.out.h,hf])
   obtain ⟨i,hi⟩:=findQ_mem hf
   have h4:=(HH.out.ok.oq i p hi).2.2.2.2.2.2.1
   have hz:(p.2.2.2 == 0)=false:=by simp;omega
   rw [hf] at kp kq
   simp only [pa,pb] at kp kq
   have fz:=(HH.out.below B2).m.sfro
   have ST:=(HH.out.below B2).m.setSlot (s:=s) (j:=k) (o:=none) (Q':=outQ K.passes s k) HH.out.lt hk (fun s' i=>by rw [HH.out.r.ps];exact outQ_find K.passes s k s' i)
   have HB:=hid (And.intro B2 ST)
   clear B2 ST hf hi h4
   go_wp2
   go_ret
   rw [E.out]
   exact ⟨.inl ⟨rfl,rfl⟩,passes_left (HH.out.below HB.out.1) HB.out.1 HB.out.2⟩
 ·have E:=hid (show K.drop a=(3,K) by unfold RM.drop;rw [if_neg (show ¬ K.cur < 0 by have:=HN.out;omega),if_neg];intro hc;have:=inI_true.1 hc;omega)
  have HC:=hid (slot_no B S M K cs rv sl t s n w h a hp)
  clear h hp
  go_enter Tryz.func88,Tryz.ntmps88
  go_wp2_with (go_at_call 139;refine HC.out.mono ?_;rintro e w2 ⟨rfl,B2⟩;replace B2:=hid B2)
  go_ret
  rw [E.out]
  exact ⟨.inr ⟨_,rfl,B2.out⟩,HH.out.kr.left B2.out⟩
theorem derive_yes (h:MH w B S M K cs rv sl t s n) (hc:¬ K.cur < 0) (a b r:Int) :
  Calls Tryz.prog 138 #[.pointer (some ⟨B.x,0,none⟩),.int .i64 a,.int .i64 b,.int .i64 r] w fun e w'=>(((K.derive a b r).1=0/\e=.returned .nilIface)\/(e=.returned (.iface 160 (.agg #[.int .i64 (K.derive a b r).1]))/\Below w.heap.size w w'))/\KLeft B S none_ (K.derive a b r).2 w w':=by
 have HH:=hid h
 have hne:=e3_ne
 have HN:=hid hc
 clear hc
 by_cases hp:0<=a/\a < 6
 ·obtain ⟨k,rfl⟩:=Int.eq_ofNat_of_zero_le hp.1
  have hk:k < 6:=by omega
  have i1:inI (k:Int) 0 5=true:=inI_true.2 (by omega)
  have HC:=hid (slot_yes B S M K cs rv sl t s n w h k hk)
  by_cases hq:0<=b/\b < 6
  ·obtain ⟨j,rfl⟩:=Int.eq_ofNat_of_zero_le hq.1
   have hj:j < 6:=by omega
   have i2:inI (j:Int) 0 5=true:=inI_true.2 (by omega)
   have HD:Hid (∀ w2,Below w.heap.size w w2->Calls Tryz.prog 139 #[.pointer (some ⟨B.x,0,none⟩),.int .i64 j] w2 fun e w'=>e=.returned (.tuple #[.pointer (some ⟨B.gs,s*30+j*2,none⟩),.nilIface])/\Below w2.heap.size w2 w'):=fun w2 b=>slot_yes B S M K cs rv sl t s n w2 (HH.out.below b) j hj
   clear h hp hq
   cases i3:inI r 1 3 with
   | true=>
    have hr:=inI_true.1 i3
    have hb:=bits_all (pb_rt HH.out.ok.oq s k) (show r=1\/r=2\/r=3 by omega)
    clear hr
    go_enter Tryz.func138,Tryz.ntmps138
    go_wp2_with fail
    refine HC.out.mono ?_
    rintro e w2 ⟨rfl,B2⟩
    have HB2:=hid B2
    clear B2
    go_wp2_with fail
    refine (HD.out w2 HB2.out).mono ?_
    rintro e w3 ⟨rfl,B3⟩
    have B2:Below w.heap.size w w3:=HB2.out.trans (B3.mono HB2.out.size)
    have KC:=(HH.out.below B2).slot hk
    have kp:=KC.1
    have kq:=KC.2
    have KD:=(HH.out.below B2).slot hj
    have dp:=KD.1
    have dq:=KD.2
    clear KC KD B3
    cases hh:hasRt (pb (findQ K.passes s k)) r with
    | false=>
     have E:=hid (show K.derive k j r=(4,K) by
      unfold RM.derive;rw [if_neg (show ¬ K.cur < 0 by have:=HN.out;omega),if_pos ⟨i1,i2,i3⟩,HH.out.h]
      rcases hf:findQ K.passes s k with _ | p
      ·rfl
      ·rw [hf] at hh;simp only [pb] at hh;simp [hh])
     rw [hh] at hb
     have HB:=hid B2
     generalize pb (findQ K.passes s k)=b1 at *
     clear B2 hh
     go_wp2_with (first
      | (go_at_call 132;refine (between_any _ _ _ _).mono ?_;rintro e w4 ⟨rfl,rfl⟩;rw [i3])
      | (go_at_call 137;refine (coreHolds_any _ _ _).mono ?_;rintro e w4 ⟨rfl,rfl⟩;rw [hb]))
     go_ret
     rw [E.out]
     exact ⟨.inr ⟨rfl,HB.out⟩,HH.out.kr.left HB.out⟩
    | true=>
     obtain ⟨p,hf⟩:∃ p,findQ K.passes s k=some p:=by
      rcases hf:findQ K.passes s k with _ | p
      ·rw [hf] at hh
       have:(0:Int)=r:=by simpa [hasRt,pb] using hh
       have:=inI_true.1 i3
       omega
      ·exact ⟨p,rfl⟩
     have E:=hid (show K.derive k j r=(0,{ K with passes:=putQ K.passes s j p.2.2.1 r }) by
      unfold RM.derive;rw [if_neg (show ¬ K.cur < 0 by have:=HN.out;omega),if_pos ⟨i1,i2,i3⟩,HH.out.h,hf]
      rw [hf] at hh;simp only [pb] at hh;simp [hh])
     rw [hh] at hb
     rw [hf] at kp kq hb
     simp only [pa,pb] at kp kq hb
     have fz:=(HH.out.below B2).m.sfro
     have ST:=(HH.out.below B2).m.setSlot (s:=s) (j:=j) (o:=some (s,j,p.2.2.1,r)) (Q':=putQ K.passes s j p.2.2.1 r) HH.out.lt hj (fun s' i=>by rw [HH.out.r.ps];exact putQ_find K.passes s j p.2.2.1 r s' i)
     simp only [pa,pb] at ST
     have HB:=hid (And.intro B2 ST)
     generalize pb (findQ K.passes s j)=b1 at *
     generalize pa (findQ K.passes s j)=a1 at *
     clear B2 hh hf ST
     go_wp2_with (first
      | (go_at_call 132;refine (between_any _ _ _ _).mono ?_;rintro e w4 ⟨rfl,rfl⟩;rw [i3])
      | (go_at_call 137;refine (coreHolds_any _ _ _).mono ?_;rintro e w4 ⟨rfl,rfl⟩;rw [hb]))
     go_ret
     rw [E.out]
     exact ⟨.inl ⟨rfl,rfl⟩,passes_left (HH.out.below HB.out.1) HB.out.1 HB.out.2⟩
   | false=>
    have E:=hid (show K.derive k j r=(3,K) by unfold RM.derive;rw [if_neg (show ¬ K.cur < 0 by have:=HN.out;omega),if_neg];intro hc;rw [i3] at hc;exact absurd hc.2.2 (by decide))
    go_enter Tryz.func138,Tryz.ntmps138
    go_wp2_with fail
    refine HC.out.mono ?_
    rintro e w2 ⟨rfl,B2⟩
    have HB2:=hid B2
    clear B2
    go_wp2_with fail
    refine (HD.out w2 HB2.out).mono ?_
    rintro e w3 ⟨rfl,B3⟩
    have B2:=hid (HB2.out.trans (B3.mono HB2.out.size))
    clear B3
    go_wp2_with (go_at_call 132;refine (between_any _ _ _ _).mono ?_;rintro e w4 ⟨rfl,rfl⟩;rw [i3])
    go_ret
    rw [E.out]
    exact ⟨.inr ⟨rfl,B2.out⟩,HH.out.kr.left B2.out⟩
  ·have E:=hid (show K.derive k b r=(3,K) by unfold RM.derive;rw [if_neg (show ¬ K.cur < 0 by have:=HN.out;omega),if_neg];intro hc;have:=inI_true.1 hc.2.1;omega)
   have HQ:=hid hq
   clear h hp hq
   go_enter Tryz.func138,Tryz.ntmps138
   go_wp2_with fail
   refine HC.out.mono ?_
   rintro e w2 ⟨rfl,B2⟩
   have HB2:=hid B2
   clear B2
   go_wp2_with fail
   refine (slot_no B S M K cs rv sl t s n w2 (HH.out.below HB2.out) b HQ.out).mono ?_
   rintro e w3 ⟨rfl,B3⟩
   have B2:=hid (HB2.out.trans (B3.mono HB2.out.size))
   clear B3
   go_wp2
   go_ret
   rw [E.out]
   exact ⟨.inr ⟨rfl,B2.out⟩,HH.out.kr.left B2.out⟩
 ·have E:=hid (show K.derive a b r=(3,K) by unfold RM.derive;rw [if_neg (show ¬ K.cur < 0 by have:=HN.out;omega),if_neg];intro hc;have:=inI_true.1 hc.1;omega)
  have HC:=hid (slot_no B S M K cs rv sl t s n w h a hp)
  clear h hp
  go_enter Tryz.func138,Tryz.ntmps138
  go_wp2_with (go_at_call 139;refine HC.out.mono ?_;rintro e w2 ⟨rfl,B2⟩;replace B2:=hid B2)
  go_ret
  rw [E.out]
  exact ⟨.inr ⟨rfl,B2.out⟩,HH.out.kr.left B2.out⟩
end
section
variable (B:Bk) (S:Nat->Prop) (K:RM) (n:Nat) (w:World)
theorem mDrop_any (h:KR w B S K) (ok:K.Ok n) (a:Int) :
  Calls Tryz.prog 88 #[.pointer (some ⟨B.x,0,none⟩),.int .i64 a] w fun e w'=>Ans (K.drop a).1 e w w'/\KLeft B S none_ (K.drop a).2 w w':=by
 by_cases hc:K.cur < 0
 ·have HC:=hid (slot_none B S K w h ok.ft hc a)
  have E:=hid (show K.drop a=(2,K) by unfold RM.drop;rw [if_pos hc])
  have HH:=hid h
  have hne:=e2_ne
  clear h hc ok
  go_enter Tryz.func88,Tryz.ntmps88
  go_wp2_with (go_at_call 139;refine HC.out.mono ?_;rintro e w2 ⟨rfl,B2⟩;replace B2:=hid B2)
  go_ret
  rw [E.out]
  exact ⟨.inr ⟨_,rfl,B2.out⟩,HH.out.left B2.out⟩
 ·obtain ⟨M,cs,rv,sl,t,s,h⟩:=MH.of h ok hc
  exact drop_yes B S M K cs rv sl t s n w h hc a
theorem derive_any (h:KR w B S K) (ok:K.Ok n) (a b r:Int) :
  Calls Tryz.prog 138 #[.pointer (some ⟨B.x,0,none⟩),.int .i64 a,.int .i64 b,.int .i64 r] w fun e w'=>(((K.derive a b r).1=0/\e=.returned .nilIface)\/(e=.returned (.iface 160 (.agg #[.int .i64 (K.derive a b r).1]))/\Below w.heap.size w w'))/\KLeft B S none_ (K.derive a b r).2 w w':=by
 by_cases hc:K.cur < 0
 ·have HC:=hid (slot_none B S K w h ok.ft hc a)
  have E:=hid (show K.derive a b r=(2,K) by unfold RM.derive;rw [if_pos hc])
  have HH:=hid h
  have hne:=e2_ne
  clear h hc ok
  go_enter Tryz.func138,Tryz.ntmps138
  go_wp2_with (go_at_call 139;refine HC.out.mono ?_;rintro e w2 ⟨rfl,B2⟩;replace B2:=hid B2)
  go_ret
  rw [E.out]
  exact ⟨.inr ⟨rfl,B2.out⟩,HH.out.left B2.out⟩
 ·obtain ⟨M,cs,rv,sl,t,s,h⟩:=MH.of h ok hc
  exact derive_yes B S M K cs rv sl t s n w h hc a b r
theorem mDerive_any (h:KR w B S K) (ok:K.Ok n) (a b r:Int) :
  Calls Tryz.prog 87 #[.pointer (some ⟨B.x,0,none⟩),.int .i64 a,.int .i64 b,.int .i64 r] w fun e w'=>Ans (K.derive a b r).1 e w w'/\KLeft B S none_ (K.derive a b r).2 w w':=by
 have HC:=hid (derive_any B S K n w h ok a b r)
 clear h ok
 generalize (K.derive a b r).1=cd at *
 generalize (K.derive a b r).2=K2 at *
 go_enter Tryz.func87,Tryz.ntmps87
 go_wp2_with fail
 refine HC.out.mono ?_
 rintro e w2 ⟨⟨hz,rfl⟩ | ⟨rfl,BB⟩,H2⟩
 ·have HB:=hid (And.intro hz H2)
  clear H2 hz
  go_wp2
  go_ret
  exact ⟨.inl ⟨HB.out.1,rfl⟩,HB.out.2⟩
 ·have HB:=hid (And.intro BB H2)
  clear H2 BB
  go_wp2
  go_ret
  exact ⟨.inr ⟨_,rfl,HB.out.1⟩,HB.out.2⟩
end
open Go.RowKit
theorem run_append_empty {P:Program}(w:World) (t ty e:TypeId) (i:TypeInfo) (ht:P.underlying t=some (.slice e)) (hi:P.info? e=some i) (g:Nat) (a:Option Addr) (c:Nat) :
  (Builtin.append_ #[t,t] ty #[.slice (some ⟨g,0,none⟩) 0 0,.slice a 0 c]).run P w=.ok (.slice (some ⟨g,0,none⟩) 0 0) w:=by
 cases a <;> simp [Builtin.append_,run_underlying ht,sizeOf,typeInfo,hi,Builtin.lenOf,Builtin.firstCells,loadCells,loadCellsFrom,storeCells]
theorem wpList_append_empty {P:Program}(w:World){ops:Array Oper}{rest:List Oper}{o:Oper}{ac:Act}{Q:Exit->Act->World->Prop}(hgd:o.guard=none) (s x:Operand) (t:TypeId)
  (ho:o.op=.call { callee:=.builtin .append,args:=#[s,x],argTypes:=#[t,t] })
  (e:TypeId) (i:TypeInfo) (ht:P.underlying t=some (.slice e)) (hi:P.info? e=some i) (g:Nat) (hs:ac.eval s=.slice (some ⟨g,0,none⟩) 0 0)
  (a:Option Addr) (c:Nat) (hx:ac.eval x=.slice a 0 c)
  (h:wpList P ops Q rest (ac.put o.dst (.slice (some ⟨g,0,none⟩) 0 0)) w):wpList P ops Q (o :: rest) ac w:=by
 have hr:=run_append_empty (P:=P) w t o.type e i ht hi g a c
 refine wpList_plain hgd fun _ hK=>?_
 unfold Oper.wp execOp
 simp only [ho,resolve,invoke,builtin,Sem.run_bind,Sem.run_pure,Result.andThen_ok,List.map_toArray,List.map_cons,List.map_nil,hs,hx,hr]
 exact hK _ _ h
theorem sl_new0 (w:World):Sl (w.alloc (.cells #[] 2)) 2 1 (.slice (some ⟨w.heap.size,0,none⟩) 0 0) []:=
 ⟨⟨by simp,.inr ⟨w.heap.size,0,#[],rfl,Nat.zero_le _,heap_alloc_new w _,Nat.le_refl _,by simp,by simp,by simp⟩⟩,by simp⟩
theorem clone_any (a:Option Addr) (n c:Nat) (l:List Int) (w:World) (h:Inl w 1 (.slice a n c) (l.map lnI)) (hl:l.length<=1000) :
  Calls Tryz.prog 120 #[.slice a n c] w fun e w'=>∃ a' n' c',e=.returned (.slice a' n' c')/\Sl w' 2 1 (.slice a' n' c') (l.map lnI)/\Below w.heap.size w w'/\∀ b,Value.ownBlock (.slice a' n' c')=some b->w.heap.size<=b:=by
 have he:∀ w,(binOp .eql 39 (.slice a n c) (.slice none 0 0)).run Tryz.prog w=.ok (.bool a.isNone) w:=fun w=>Go.Lib.run_eql_slice_nil w 39 2 a n c 0 0 Tryz.underlying39
 obtain ⟨i0,hi0,hz0,hz1,hz2⟩:=info_parts Tryz.infoN2
 cases a with
 | none=>
  have e0:l=[]:=by
   obtain ⟨a0,c0,ev,_,hr⟩:=h.form
   simp only [Value.slice.injEq] at ev
   rcases hr with hr | ⟨b,off,hr,_⟩
   ·simpa using hr
   ·rw [hr] at ev;simp at ev
  subst e0
  clear h
  go_enter Tryz.func120,Tryz.ntmps120
  go_wp2
  go_ret
  exact ⟨_,_,_,rfl,Sl.nil _ _ _,Below.refl _ _,fun b hb=>by simp [Value.ownBlock] at hb⟩
 | some p=>
  obtain ⟨a0,c0,ev,hm,hr⟩:=h.form
  simp only [Value.slice.injEq,List.length_map] at ev
  obtain ⟨ea,en,rfl⟩:=ev
  cases l with
  | nil=>
   have e0:n=0:=en
   subst e0
   clear h hr en hm hl ea
   go_enter Tryz.func120,Tryz.ntmps120
   go_wp2_with (at_builtin;go_must (refine wpList_append_empty _ rfl _ _ 39 rfl 2 i0 Tryz.underlying39 hi0 w.heap.size rfl (some p) c rfl ?_))
   go_ret
   exact ⟨_,_,_,rfl,sl_new0 w,(Below.refl _ w).alloc (Nat.le_refl _) _,fun b hb=>by simp [Value.ownBlock] at hb;omega⟩
  | cons x xs=>
   rcases hr with hr | ⟨b,off,e2,hr⟩
   ·simp at hr
   ·rw [e2] at ea
    cases ea
    have HH:=hid (And.intro (And.intro h en) hr)
    clear h hr e2 en
    go_enter Tryz.func120,Tryz.ntmps120
    go_wp2_with (at_builtin;go_must (refine wpList_append_sl _ rfl _ _ 39 rfl 2 i0 _ 1 8 Tryz.underlying39 hi0 hz0 hz1 hz2 rfl (by decide) (.slice (some ⟨w.heap.size,0,none⟩) 0 0) [] rfl (sl_new0 w) ⟨b,off,none⟩ n c ((x :: xs).map lnI) rfl (by rw [List.length_map];exact HH.out.1.2.symm) (by have:=HH.out.1.2;simp at this;omega) HH.out.1.1.len (fun j u hu=>by rw [Addr.add_mid];exact World.rangeAt_alloc HH.out.2 _ j u hu) (fun u hu=>by obtain ⟨y,hy,huy⟩:=List.mem_flatten.1 hu;exact HH.out.1.1.one y hy u huy) (by have:=HH.out.1.2;simp only [List.length_nil];unfold maxLen;omega) (by have:=HH.out.1.2;simp only [List.length_nil];omega) ?_);intro a4 c4 w4 G4;simp only [List.length_nil,Nat.zero_add,List.nil_append] at G4)
    go_ret
    refine ⟨_,_,_,rfl,G4.sl,(G4.fr (S:=fun k=>w.heap.size<=k) ((Fr.refl _ w).alloc _) (fun k hk _=>by simp [Value.ownBlock] at hk;omega)).to_below (Nat.le_refl _) (fun _ h=>h),fun k hk=>?_⟩
    rcases G4.at_ k hk with h | h
    ·simp at h;omega
    ·simp [Value.ownBlock] at h;omega
open Go.RowKit
theorem pickT_no (a:Option Addr) (m c:Nat) (t:Int) (w:World) (h:¬ (0<=t/\t < m)) :
  Calls Tryz.prog 119 #[.slice a m c,.int .i64 t] w fun e w'=>e=.returned (.tuple #[.pointer none,E3])/\w'=w:=by
 have d:decide (0<=t/\t < (m:Int))=false:=by simpa using h
 go_enter Tryz.func119,Tryz.ntmps119
 go_wp2_with (go_at_call 149;refine (below_any _ _ _).mono ?_;rintro e w' ⟨rfl,rfl⟩;rw [d])
 go_ret2
 exact ⟨rfl,rfl⟩
theorem pickT_yes (g m c t:Nat) (w:World) (h:t < m) :
  Calls Tryz.prog 119 #[.slice (some ⟨g,0,none⟩) m c,.int .i64 t] w fun e w'=>e=.returned (.tuple #[.pointer (some ⟨g,t*17,none⟩),.nilIface])/\w'=w:=by
 have d:decide (0<=(t:Int)/\(t:Int) < (m:Int))=true:=by simp;omega
 have tm:(t:Int) < (m:Int):=by omega
 go_enter Tryz.func119,Tryz.ntmps119
 go_wp2_with (go_at_call 149;refine (below_any _ _ _).mono ?_;rintro e w' ⟨rfl,rfl⟩;rw [d])
 go_ret2
 exact ⟨rfl,rfl⟩
theorem pickS_no (a:Option Addr) (m c:Nat) (t:Int) (w:World) (h:¬ (0<=t/\t < m)) :
  Calls Tryz.prog 140 #[.slice a m c,.int .i64 t] w fun e w'=>e=.returned (.tuple #[.pointer none,E3])/\w'=w:=by
 have d:decide (0<=t/\t < (m:Int))=false:=by simpa using h
 go_enter Tryz.func140,Tryz.ntmps140
 go_wp2_with (go_at_call 149;refine (below_any _ _ _).mono ?_;rintro e w' ⟨rfl,rfl⟩;rw [d])
 go_ret2
 exact ⟨rfl,rfl⟩
theorem pickS_yes (g m c t:Nat) (w:World) (h:t < m) :
  Calls Tryz.prog 140 #[.slice (some ⟨g,0,none⟩) m c,.int .i64 t] w fun e w'=>e=.returned (.tuple #[.pointer (some ⟨g,t*30,none⟩),.nilIface])/\w'=w:=by
 have d:decide (0<=(t:Int)/\(t:Int) < (m:Int))=true:=by simp;omega
 have tm:(t:Int) < (m:Int):=by omega
 go_enter Tryz.func140,Tryz.ntmps140
 go_wp2_with (go_at_call 149;refine (below_any _ _ _).mono ?_;rintro e w' ⟨rfl,rfl⟩;rw [d])
 go_ret2
 exact ⟨rfl,rfl⟩
abbrev told0:Array Value:=#[.int .i64 0,.int .i64 0,.int .i64 0,.slice none 0 0,.int .i64 0]
section
variable (B:Bk) (S:Nat->Prop) (K:RM) (n:Nat) (w:World)
theorem mLook_no (t:Int) (h:KR w B S K) (ok:K.Ok n) (ht:¬ (0<=t/\t < K.threads.length)) :
  Calls Tryz.prog 75 #[.pointer (some ⟨B.x,0,none⟩),.int .i64 t] w fun e w'=>∃ s,e=.returned (.tuple #[.agg told0,.iface 166 (.agg #[.string s,E3])])/\Below w.heap.size w w':=by
 obtain ⟨M,⟨cs,rv,sl,hm,hS⟩,R⟩:=h
 have hc1:=(hm.cell 1).trans hm.c1
 have lx:=hm.lx
 have h6:=R.six ok.ft
 rw [<- R.len] at ht
 have hne:=e3_ne
 generalize M.threads.length=m at *
 have HT:=hid ht
 clear hm hS ht R ok
 go_enter Tryz.func75,Tryz.ntmps75
 go_wp2_with (go_at_call 119;refine (pickT_no _ m B.c t _ HT.out).mono ?_;rintro e w1 ⟨rfl,rfl⟩)
 exact bodyPost_ret (results_row_tmp Tryz.results75 _ _ w.heap.size 50 _ (0,0) _ _ rfl (heap_alloc_new w _) Tryz.underlying50 rfl (by kernel_rfl) rfl) rfl ⟨_,rfl,(Below.refl _ w).alloc (Nat.le_refl _) _⟩
theorem told_range {M:PM}{cs:Array Value}{rv:Nat->Value}{sl:List (Sv×Sv×Value)}(hm:PmAt w B M cs rv sl){t:Nat}{p:PT}{s:Sv×Sv×Value}(hp:M.threads[t]? = some p) (hs:sl[t]? = some s):w.rangeAt B.g (t*17+3) [.int .i64 p.st,.int .i64 p.code,.int .i64 p.who,.slice s.1.a s.1.n s.1.c,.int .i64 p.got]:=fun j v hv=>by
 have hj:j < 5:=(List.getElem?_eq_some_iff.1 hv).1
 rw [Nat.add_assoc,hm.tcell hp hs (3+j) (by omega),Nat.add_comm 3 j]
 have h5:j=0\/j=1\/j=2\/j=3\/j=4:=by omega
 rcases h5 with rfl | rfl | rfl | rfl | rfl <;> simpa [prow] using hv
theorem mLook_yes (t:Nat) (u:Th) (h:KR w B S K) (ok:K.Ok n) (hu:K.threads[t]? = some u) :
  Calls Tryz.prog 75 #[.pointer (some ⟨B.x,0,none⟩),.int .i64 t] w fun e w'=>∃ a m c,e=.returned (.tuple #[.agg #[.int .i64 u.st,.int .i64 u.code,.int .i64 u.who,.slice a m c,.int .i64 u.got],.nilIface])/\Sl w' 2 1 (.slice a m c) (u.ws.map lnI)/\Below w.heap.size w w'/\∀ b,Value.ownBlock (.slice a m c)=some b->w.heap.size<=b:=by
 obtain ⟨M,⟨cs,rv,sl,hm,hS⟩,R⟩:=h
 obtain ⟨p,hp,RT⟩:=R.get hu
 obtain ⟨s,hs⟩:=hm.sl_get hp
 have hc1:=(hm.cell 1).trans hm.c1
 have lx:=hm.lx
 have h6:=R.six ok.ft
 have ht:=(List.getElem?_eq_some_iff.1 hp).1
 have R0:=told_range B w hm hp hs
 have I0:=(hm.wd t p s hp hs).1.inl
 have l0:p.ws.length<=1000:=by rw [RT.ws];have:=(ok.ft.th t u hu).ws;omega
 rw [RT.ws] at I0 l0
 rw [RT.st,RT.code,RT.who,RT.got] at R0
 obtain ⟨⟨sa,sn,sc⟩,s2⟩:=s
 simp only at R0
 have R1:=hid (World.rangeAt_alloc R0 (.cells told0 50))
 have CL:Hid (∀ w1:World,Fr (fun _=>False) w w1->Calls Tryz.prog 120 #[.slice sa sn sc] w1 fun e w'=>∃ a' n' c',e=.returned (.slice a' n' c')/\Sl w' 2 1 (.slice a' n' c') (u.ws.map lnI)/\Below w1.heap.size w1 w'/\∀ b,Value.ownBlock (.slice a' n' c')=some b->w1.heap.size<=b):=fun w1 F=>clone_any sa sn sc u.ws w1 (I0.kept (by omega) F (fun _ _ h=>h)) l0
 generalize M.threads.length=m at *
 clear hm hS R0 hu RT hp hs I0 l0 R ok
 go_enter Tryz.func75,Tryz.ntmps75
 go_wp2_with (first
  | (go_at_call 119;refine (pickT_yes B.g m B.c t _ ht).mono ?_;rintro e w1 ⟨rfl,rfl⟩)
  | (go_at_call 120;refine (CL.out _ (((Fr.refl _ w).alloc _).alloc _)).mono ?_;rintro e w2 ⟨a2,n2,c2,rfl,H2⟩;have b8:w2.heap[w.heap.size+1]? = some (.cells #[.int .i64 u.st,.int .i64 u.code,.int .i64 u.who,.slice sa sn sc,.int .i64 u.got] 50 (0,0)):=(H2.2.1.block _ (by simp)).trans (by simpa using heap_alloc_new (w.alloc (.cells told0 50)) (.cells #[.int .i64 u.st,.int .i64 u.code,.int .i64 u.who,.slice sa sn sc,.int .i64 u.got] 50));have b4:w2.heap[w.heap.size]? = some (.cells told0 50 (0,0)):=(H2.2.1.block _ (by simp only [size_alloc];omega)).trans (heap_alloc2_old w _ _);have HB:=hid (And.intro b8 (And.intro b4 H2));obtain ⟨⟨d0,d1,d2,d3,d4⟩,fz8⟩:=cells5 b8;obtain ⟨⟨x0,x1,x2,x3,x4⟩,fz4⟩:=cells5 b4;clear b8 b4 H2)
  | (with_reducible (show wpList _ _ _ (⟨some 27,.load 50 _,_,_,_,none⟩ :: _) _ _);go_must (refine wpList_load_mid rfl 50 _ rfl B.g (t*17+3) rfl _ _ R1.out Tryz.underlying50 rfl (by kernel_rfl) ?_)))
 obtain ⟨b8,b4,H2⟩:=HB.out
 have b4':(w2.setCell ⟨w.heap.size+1,3,none⟩ (.slice a2 n2 c2)).heap[w.heap.size]? = some (.cells told0 50 (0,0)):=by
  rw [heap_setCell_other _ _ _ _ (by simp)];exact b4
 have z2:=H2.2.1.size
 simp only [size_alloc] at z2
 have F:Fr (fun k=>k=w.heap.size\/k=w.heap.size+1) w2 ((((((w2.setCell ⟨w.heap.size+1,3,none⟩ (.slice a2 n2 c2)).setCell ⟨w.heap.size,0,none⟩ (.int .i64 u.st)).setCell ⟨w.heap.size,1,none⟩ (.int .i64 u.code)).setCell ⟨w.heap.size,2,none⟩ (.int .i64 u.who)).setCell ⟨w.heap.size,3,none⟩ (.slice a2 n2 c2)).setCell ⟨w.heap.size,4,none⟩ (.int .i64 u.got)):=
  ((((((Fr.refl _ w2).setCell (p:=⟨w.heap.size+1,3,none⟩) (fun _=>.inr rfl) _).setCell (p:=⟨w.heap.size,0,none⟩) (fun _=>.inl rfl) _).setCell (p:=⟨w.heap.size,1,none⟩) (fun _=>.inl rfl) _).setCell (p:=⟨w.heap.size,2,none⟩) (fun _=>.inl rfl) _).setCell (p:=⟨w.heap.size,3,none⟩) (fun _=>.inl rfl) _).setCell (p:=⟨w.heap.size,4,none⟩) (fun _=>.inl rfl) _
 have hn:∀ b,Value.ownBlock (.slice a2 n2 c2)=some b->w.heap.size+2<=b:=fun b hb=>by have:=H2.2.2 b hb;simpa using this
 refine bodyPost_ret (results_row_tmp Tryz.results75 _ _ w.heap.size 50 _ (0,0) _ _ rfl (set5 b4') Tryz.underlying50 rfl (by kernel_rfl) rfl) rfl ⟨a2,n2,c2,rfl,H2.1.kept F (fun k hk e=>?_),?_,fun b hb=>by have:=hn b hb;omega⟩
 ·have:=hn k hk;omega
 ·exact ((((Below.refl _ w).alloc (Nat.le_refl _) _).alloc (by simp) _).trans (H2.2.1.mono (by simp only [size_alloc];omega))).trans (F.to_below (by omega) (fun k e=>by omega))
theorem fr5 (w:World) (g:Nat) (a b c d e:Value):Fr (fun k=>k=g) w (((((w.setCell ⟨g,0,none⟩ a).setCell ⟨g,1,none⟩ b).setCell ⟨g,2,none⟩ c).setCell ⟨g,3,none⟩ d).setCell ⟨g,4,none⟩ e):=
 (((((Fr.refl (fun k=>k=g) w).setCell (p:=⟨g,0,none⟩) (fun _=>rfl) _).setCell (p:=⟨g,1,none⟩) (fun _=>rfl) _).setCell (p:=⟨g,2,none⟩) (fun _=>rfl) _).setCell (p:=⟨g,3,none⟩) (fun _=>rfl) _).setCell (p:=⟨g,4,none⟩) (fun _=>rfl) _
def LookOut (u:List Int) (w:World) (v:Value) (w':World):Prop:=Sl w' 2 1 v (u.map lnI)/\Below w.heap.size w w'/\∀ b,v.ownBlock=some b->w.heap.size<=b
theorem look_face (i0 i1 i2 i3:Int) (t:Int) (E:Value->Prop) (cd:Int) (ws:List Int) (x:Nat) (hg:∀ ev,E ev->∀ w':World,Fr (fun _=>False) (w.alloc (.cells told0 50)) w'->Calls Tryz.prog 45 #[ev] w' fun e w2=>e=.returned (.int .i64 cd)/\Below w'.heap.size w' w2)
  (C:Calls Tryz.prog 75 #[.pointer (some ⟨x,0,none⟩),.int .i64 t] (w.alloc (.cells told0 50)) fun e w'=>∃ a m c ev,e=.returned (.tuple #[.agg #[.int .i64 i0,.int .i64 i1,.int .i64 i2,.slice a m c,.int .i64 i3],ev])/\E ev/\LookOut ws (w.alloc (.cells told0 50)) (.slice a m c) w') :
  Calls Tryz.prog 40 #[.pointer (some ⟨x,0,none⟩),.int .i64 t] w fun e w'=>∃ v,e=.returned (.tuple #[.agg #[.int .i64 i0,.int .i64 i1,.int .i64 i2,v,.int .i64 i3],.int .i64 cd])/\LookOut ws w v w':=by
 have HC:=hid C
 have HG:=hid hg
 clear C hg
 go_enter Tryz.func40,Tryz.ntmps40
 go_wp2_with (go_at_call 75;refine HC.out.mono ?_;rintro e w2 ⟨a2,n2,c2,ev,rfl,hev,H2⟩;replace H2:=hid H2;have HV:=hid hev;clear hev)
 have hb2:w2.heap[w.heap.size]? = some (.cells told0 50 (0,0)):=(H2.out.2.1.block _ (by simp)).trans (heap_alloc_new w _)
 have lw2:w.heap.size < w2.heap.size:=(Array.getElem?_eq_some_iff.1 hb2).1
 have hn:∀ b,Value.ownBlock (.slice a2 n2 c2)=some b->w.heap.size+1<=b/\b < w2.heap.size:=fun b hb=>⟨by have:=H2.out.2.2 b hb;simpa using this,H2.out.1.lt hb⟩
 have B3:∀ w3:World,Below (w2.alloc (.cells #[.int .i64 i0,.int .i64 i1,.int .i64 i2,.slice a2 n2 c2,.int .i64 i3] 50)).drew.heap.size (w2.alloc (.cells #[.int .i64 i0,.int .i64 i1,.int .i64 i2,.slice a2 n2 c2,.int .i64 i3] 50)).drew w3->Hid (w3.heap[w2.heap.size]? = some (.cells #[.int .i64 i0,.int .i64 i1,.int .i64 i2,.slice a2 n2 c2,.int .i64 i3] 50 (0,0))/\w3.heap[w.heap.size]? = some (.cells told0 50 (0,0))/\Below w.heap.size w w3/\Sl w3 2 1 (.slice a2 n2 c2) (ws.map lnI)):=by
  intro w3 h3
  have hh:(w2.alloc (.cells #[.int .i64 i0,.int .i64 i1,.int .i64 i2,.slice a2 n2 c2,.int .i64 i3] 50)).drew.heap.size=w2.heap.size+1:=by simp
  rw [hh] at h3
  have hB:Below w.heap.size w w2:=(((Below.refl _ w).alloc (Nat.le_refl _) _).trans (H2.out.2.1.mono (by simp)))
  refine ⟨(h3.block _ (by omega)).trans (heap_alloc_new w2 _),(h3.block _ (by omega)).trans ((Below.heap_alloc w2 _ _ lw2).trans hb2),(hB.alloc (by omega) _).drew.trans (h3.mono (by omega)),?_⟩
  have hf:Fr (fun _=>False) w2 w3:=(((Fr.refl (fun _=>False) w2).alloc _).drew).trans (Fr.of_below (by rw [hh];exact h3) _)
  exact H2.out.1.kept hf (fun _ _ h=>h)
 have F2:Hid (Fr (fun _=>False) (w.alloc (.cells told0 50)) (w2.alloc (.cells #[.int .i64 i0,.int .i64 i1,.int .i64 i2,.slice a2 n2 c2,.int .i64 i3] 50)).drew):=((Fr.of_below H2.out.2.1 _).alloc _).drew
 have HB3:=hid (And.intro B3 hn)
 clear B3 hb2 hn
 go_region_with (go_at_call 45;refine (HG.out ev HV.out _ F2.out).mono ?_;rintro e w3 ⟨rfl,H3⟩;have G3:=HB3.out.1 w3 H3;have c30:=cells5 G3.out.1;have c31:=cells5 G3.out.2.1;have f30:=frozen_of_row w3 w.heap.size 0 _ _ G3.out.2.1;have f31:=frozen_of_row w3 w.heap.size 1 _ _ G3.out.2.1;have f32:=frozen_of_row w3 w.heap.size 2 _ _ G3.out.2.1;have f33:=frozen_of_row w3 w.heap.size 3 _ _ G3.out.2.1;have f34:=frozen_of_row w3 w.heap.size 4 _ _ G3.out.2.1;obtain ⟨⟨c300,c301,c302,c303,c304⟩,_⟩:=c30;obtain ⟨⟨c310,c311,c312,c313,c314⟩,_⟩:=c31;clear H3)
 all_goals
  try go_wp2
  refine bodyPost_ret (results_row_tmp Tryz.results40 _ _ w.heap.size 50 _ (0,0) _ _ rfl (set5 G3.out.2.1) Tryz.underlying50 rfl (by kernel_rfl) rfl) rfl ⟨_,rfl,G3.out.2.2.2.kept (fr5 w3 _ _ _ _ _ _) (fun k hk e=>by have:=(HB3.out.2 k hk).1;omega),((((G3.out.2.2.1.setCell (p:=⟨w.heap.size,0,none⟩) (Nat.le_refl _) _).setCell (p:=⟨w.heap.size,1,none⟩) (Nat.le_refl _) _).setCell (p:=⟨w.heap.size,2,none⟩) (Nat.le_refl _) _).setCell (p:=⟨w.heap.size,3,none⟩) (Nat.le_refl _) _).setCell (p:=⟨w.heap.size,4,none⟩) (Nat.le_refl _) _,fun b hb=>by have:=(HB3.out.2 b hb).1;omega⟩
theorem KR.alloc {w:World}{B:Bk}{S:Nat->Prop}{K:RM}(h:KR w B S K) (o:Obj):KR (w.alloc o) B S K:=h.below ((Below.refl _ w).alloc (Nat.le_refl _) _)
theorem Gl.free {w w':World}(h:Gl w) (hf:Fr (fun _=>False) w w'):Gl w':=h.below (hf.to_below (Nat.le_refl _) (fun _ h=>h.elim))
theorem fLook_yes (t:Nat) (u:Th) (h:KR w B S K) (ok:K.Ok n) (hu:K.threads[t]? = some u) :
  Calls Tryz.prog 40 #[.pointer (some ⟨B.x,0,none⟩),.int .i64 t] w fun e w'=>∃ v,e=.returned (.tuple #[.agg #[.int .i64 u.st,.int .i64 u.code,.int .i64 u.who,v,.int .i64 u.got],.int .i64 0])/\LookOut u.ws w v w':=
 look_face w u.st u.code u.who u.got t (fun ev=>ev=.nilIface) 0 u.ws B.x (fun ev hev w' _=>by rw [hev];exact number_nil w') ((mLook_yes B S K n _ t u (h.alloc _) ok hu).mono (by rintro e w' ⟨a,m,c,rfl,H⟩;exact ⟨a,m,c,_,rfl,rfl,H⟩))
theorem fLook_no (t:Int) (hg:Gl w) (h:KR w B S K) (ok:K.Ok n) (ht:¬ (0<=t/\t < K.threads.length)) :
  Calls Tryz.prog 40 #[.pointer (some ⟨B.x,0,none⟩),.int .i64 t] w fun e w'=>∃ v,e=.returned (.tuple #[.agg #[.int .i64 0,.int .i64 0,.int .i64 0,v,.int .i64 0],.int .i64 3])/\LookOut [] w v w':=by
 refine look_face w 0 0 0 0 t (fun ev=>∃ s,ev=.iface 166 (.agg #[.string s,E3])) 3 [] B.x ?_ ((mLook_no B S K n _ t (h.alloc _) ok ht).mono ?_)
 ·rintro ev ⟨s,rfl⟩ w' hf
  exact number_met1 s 3 w' ((hg.alloc _).free hf)
 ·rintro e w' ⟨s,rfl,H⟩
  exact ⟨none,0,0,_,rfl,⟨s,rfl⟩,Sl.nil _ _ _,H,fun b hb=>by simp [Value.ownBlock] at hb⟩
end
open Go.RowKit
theorem find_mem {L:List (Int×Int×Int×Int)}{s n:Int}{p:Int×Int×Int×Int}(h:findQ L s n=some p):(∃ i:Nat,L[i]? = some p)/\p.1=s/\p.2.1=n:=by
 unfold findQ at h
 have h1:=List.mem_of_find?_eq_some h
 have h2:=List.find?_some h
 simp at h2
 exact ⟨List.mem_iff_getElem?.1 h1,h2⟩
theorem told_no {L:List (Int×Int×Int×Int)}(hr:∀ (i:Nat) p,L[i]? = some p->p.2.2.2≠0){s:Int}{k:Nat}(h:pb (findQ L s k)=0):told L s (k+1)=told L s k:=by
 rcases hf:findQ L s k with _ | p
 ·simp [told,hf]
 ·obtain ⟨⟨i,hi⟩,_⟩:=find_mem hf
  rw [hf] at h
  exact absurd h (hr i p hi)
theorem told_yes {L:List (Int×Int×Int×Int)}{s:Int}{k:Nat}(h:pb (findQ L s k)≠0):(told L s (k+1)).map qRow=(told L s k).map qRow ++ [[.int .i64 s,.int .i64 k,.int .i64 (pa (findQ L s k)),.int .i64 (pb (findQ L s k))]]:=by
 rcases hf:findQ L s k with _ | p
 ·rw [hf] at h;exact absurd rfl h
 ·obtain ⟨_,h1,h2⟩:=find_mem hf
  simp [told,hf,qRow,pa,pb,h1,h2]
theorem Tryz.ix229_0 (a0 a1 a2 a3 a4 a5 a6 a7 a8 a9 a10 a11:Int) (w:World):(Instr.index 229 (.agg #[.int .i64 a0,.int .i64 a1,.int .i64 a2,.int .i64 a3,.int .i64 a4,.int .i64 a5,.int .i64 a6,.int .i64 a7,.int .i64 a8,.int .i64 a9,.int .i64 a10,.int .i64 a11]) (.int .i64 0)).run Tryz.prog w=.ok (.agg #[.int .i64 a0,.int .i64 a1]) w:=by kernel_rfl
theorem Tryz.ix229_1 (a0 a1 a2 a3 a4 a5 a6 a7 a8 a9 a10 a11:Int) (w:World):(Instr.index 229 (.agg #[.int .i64 a0,.int .i64 a1,.int .i64 a2,.int .i64 a3,.int .i64 a4,.int .i64 a5,.int .i64 a6,.int .i64 a7,.int .i64 a8,.int .i64 a9,.int .i64 a10,.int .i64 a11]) (.int .i64 1)).run Tryz.prog w=.ok (.agg #[.int .i64 a2,.int .i64 a3]) w:=by kernel_rfl
theorem Tryz.ix229_2 (a0 a1 a2 a3 a4 a5 a6 a7 a8 a9 a10 a11:Int) (w:World):(Instr.index 229 (.agg #[.int .i64 a0,.int .i64 a1,.int .i64 a2,.int .i64 a3,.int .i64 a4,.int .i64 a5,.int .i64 a6,.int .i64 a7,.int .i64 a8,.int .i64 a9,.int .i64 a10,.int .i64 a11]) (.int .i64 2)).run Tryz.prog w=.ok (.agg #[.int .i64 a4,.int .i64 a5]) w:=by kernel_rfl
theorem Tryz.ix229_3 (a0 a1 a2 a3 a4 a5 a6 a7 a8 a9 a10 a11:Int) (w:World):(Instr.index 229 (.agg #[.int .i64 a0,.int .i64 a1,.int .i64 a2,.int .i64 a3,.int .i64 a4,.int .i64 a5,.int .i64 a6,.int .i64 a7,.int .i64 a8,.int .i64 a9,.int .i64 a10,.int .i64 a11]) (.int .i64 3)).run Tryz.prog w=.ok (.agg #[.int .i64 a6,.int .i64 a7]) w:=by kernel_rfl
theorem Tryz.ix229_4 (a0 a1 a2 a3 a4 a5 a6 a7 a8 a9 a10 a11:Int) (w:World):(Instr.index 229 (.agg #[.int .i64 a0,.int .i64 a1,.int .i64 a2,.int .i64 a3,.int .i64 a4,.int .i64 a5,.int .i64 a6,.int .i64 a7,.int .i64 a8,.int .i64 a9,.int .i64 a10,.int .i64 a11]) (.int .i64 4)).run Tryz.prog w=.ok (.agg #[.int .i64 a8,.int .i64 a9]) w:=by kernel_rfl
theorem Tryz.ix229_5 (a0 a1 a2 a3 a4 a5 a6 a7 a8 a9 a10 a11:Int) (w:World):(Instr.index 229 (.agg #[.int .i64 a0,.int .i64 a1,.int .i64 a2,.int .i64 a3,.int .i64 a4,.int .i64 a5,.int .i64 a6,.int .i64 a7,.int .i64 a8,.int .i64 a9,.int .i64 a10,.int .i64 a11]) (.int .i64 5)).run Tryz.prog w=.ok (.agg #[.int .i64 a10,.int .i64 a11]) w:=by kernel_rfl
theorem tellPasses_any (g o:Nat) (t:Int) (P:List (Int×Int×Int×Int)) (w:World) (_hg:g < w.heap.size) (hr:w.rangeAt g (o) [.int .i64 (pa (findQ P t 0)),.int .i64 (pb (findQ P t 0)),.int .i64 (pa (findQ P t 1)),.int .i64 (pb (findQ P t 1)),.int .i64 (pa (findQ P t 2)),.int .i64 (pb (findQ P t 2)),.int .i64 (pa (findQ P t 3)),.int .i64 (pb (findQ P t 3)),.int .i64 (pa (findQ P t 4)),.int .i64 (pb (findQ P t 4)),.int .i64 (pa (findQ P t 5)),.int .i64 (pb (findQ P t 5))]) (hk:∀ (i:Nat) p,P[i]? = some p->p.2.2.2≠0) :
  Calls Tryz.prog 141 #[.pointer (some ⟨g,o,none⟩),.int .i64 t] w fun e w'=>∃ a n c,e=.returned (.slice a n c)/\Sl w' 55 4 (.slice a n c) ((told P t 6).map qRow)/\Below w.heap.size w w'/\∀ b,Value.ownBlock (.slice a n c)=some b->w.heap.size<=b:=by
 obtain ⟨i0,hi0,hz0,hz1,hz2⟩:=info_parts Tryz.infoN55
 have HR:=hid hr
 have HK:=hid hk
 clear hr hk
 go_enter Tryz.func141,Tryz.ntmps141
 go_wp2_with (with_reducible (show wpList _ _ _ (⟨_,.load 229 _,_,_,_,none⟩ :: _) _ _);go_must (refine wpList_load_mid rfl 229 _ rfl g (o) rfl _ _ HR.out Tryz.underlying229 rfl (by kernel_rfl) ?_))
 go_loopw [5,12] (fun v i wr=>∃ (k n:Nat) (a:Option Addr) (c:Nat),k<=6/\i=.int .i64 k/\v=.slice a n c/\Hid ((told P t k).length=n/\Sl wr 55 4 (.slice a n c) ((told P t k).map qRow)/\Below w.heap.size w wr/\∀ b,Value.ownBlock (.slice a n c)=some b->w.heap.size<=b)) (fun _ i _=>6-(intOf i).toNat)
 case atStart=>exact ⟨0,0,none,0,Nat.zero_le _,rfl,rfl,rfl,Sl.nil w 55 4,Below.refl _ _,fun b hb=>by simp [Value.ownBlock] at hb⟩
 case round=>
  obtain ⟨k,n,a,c,hk,rfl,rfl,HI⟩:=hrel
  have hn:n<=6:=by have:=told_le P t k;have:=HI.out.1;omega
  by_cases hlt:k < 6
  ·have hix:∀ w,(Instr.index 229 (.agg #[.int .i64 (pa (findQ P t 0)),.int .i64 (pb (findQ P t 0)),.int .i64 (pa (findQ P t 1)),.int .i64 (pb (findQ P t 1)),.int .i64 (pa (findQ P t 2)),.int .i64 (pb (findQ P t 2)),.int .i64 (pa (findQ P t 3)),.int .i64 (pb (findQ P t 3)),.int .i64 (pa (findQ P t 4)),.int .i64 (pb (findQ P t 4)),.int .i64 (pa (findQ P t 5)),.int .i64 (pb (findQ P t 5))]) (.int .i64 k)).run Tryz.prog w=.ok (.agg #[.int .i64 (pa (findQ P t k)),.int .i64 (pb (findQ P t k))]) w:=by
    intro w
    have h6:k=0\/k=1\/k=2\/k=3\/k=4\/k=5:=by omega
    rcases h6 with rfl | rfl | rfl | rfl | rfl | rfl
    ·exact Tryz.ix229_0 _ _ _ _ _ _ _ _ _ _ _ _ w
    ·exact Tryz.ix229_1 _ _ _ _ _ _ _ _ _ _ _ _ w
    ·exact Tryz.ix229_2 _ _ _ _ _ _ _ _ _ _ _ _ w
    ·exact Tryz.ix229_3 _ _ _ _ _ _ _ _ _ _ _ _ w
    ·exact Tryz.ix229_4 _ _ _ _ _ _ _ _ _ _ _ _ w
    ·exact Tryz.ix229_5 _ _ _ _ _ _ _ _ _ _ _ _ w
   have TN:Hid (pb (findQ P t k)=0->told P t (k+1)=told P t k):=told_no HK.out
   have TY:Hid (pb (findQ P t k)≠0->(told P t (k+1)).map qRow=(told P t k).map qRow ++ [[.int .i64 t,.int .i64 k,.int .i64 (pa (findQ P t k)),.int .i64 (pb (findQ P t k))]]):=told_yes
   generalize pa (findQ P t k)=A at hix TY
   generalize pb (findQ P t k)=B at hix TY TN
   by_cases hB:B=0
   ·have hB':(B != 0)=false:=by simp [hB]
    have HB:=hid hB
    clear hB
    go_wp2
    refine ⟨⟨k+1,n,a,c,by omega,by go_num,rfl,?_⟩,by simp [intOf];omega⟩
    have e:=TN.out HB.out
    exact ⟨by rw [e];exact HI.out.1,by rw [e];exact HI.out.2.1.alloc _,HI.out.2.2.1.alloc HI.out.2.2.1.size _,HI.out.2.2.2⟩
   ·have hB':(B != 0)=true:=by simp [hB]
    have HB:=hid hB
    clear hB
    go_wp2_with (at_builtin;go_must (refine wpList_append_sl _ rfl _ _ 29 rfl 55 i0 _ 4 32 Tryz.underlying29 hi0 hz0 hz1 hz2 rfl (by decide) (.slice a n c) ((told P t k).map qRow) rfl ((HI.out.2.1.alloc _).alloc _) ⟨wr.heap.size+1,0,none⟩ 1 1 [[.int .i64 t,.int .i64 k,.int .i64 A,.int .i64 B]] rfl rfl (by decide) (by simp) (fun j u h=>cell_news2 wr _ #[.int .i64 t,.int .i64 k,.int .i64 A,.int .i64 B] 55 j u (by simpa using h)) (fun u hu=>by simp at hu;rcases hu with rfl | rfl | rfl | rfl <;> rfl) (by have:=HI.out.1;rw [List.length_map];unfold maxLen;omega) (by have:=HI.out.1;rw [List.length_map];omega) ?_);intro a4 c4 w4 G4)
    rw [List.length_map] at G4
    have e:=TY.out HB.out
    have el:(told P t (k+1)).length=(told P t k).length+1:=by have:=congrArg List.length e;simpa using this
    have F4:Fr (fun q=>w.heap.size<=q) wr w4:=G4.fr (((Fr.refl _ wr).alloc _).alloc _) (fun q hq _=>HI.out.2.2.2 q hq)
    refine ⟨⟨k+1,_,a4,c4,by omega,by go_num,rfl,el,by rw [e];exact G4.sl,HI.out.2.2.1.trans (F4.to_below HI.out.2.2.1.size (fun _ h=>h)),fun b hb=>?_⟩,by simp [intOf];omega⟩
    rcases G4.at_ b hb with h | h
    ·have:=HI.out.2.2.1.size
     simp at h
     omega
    ·exact HI.out.2.2.2 b h
  ·have hk6:k=6:=by omega
   subst hk6
   go_wp2
   go_ret
   exact ⟨_,_,_,rfl,HI.out.2.1,HI.out.2.2.1,HI.out.2.2.2⟩
theorem Tryz.ix230_0 (a0 b0 a1 b1 a2 b2 a3 b3 a4 b4 a5 b5:Int) (p0 p1 p2 p3 p4 p5:Option Addr) (w:World):(Instr.index 230 (.agg #[.int .i64 a0,.int .i64 b0,.pointer p0,.int .i64 a1,.int .i64 b1,.pointer p1,.int .i64 a2,.int .i64 b2,.pointer p2,.int .i64 a3,.int .i64 b3,.pointer p3,.int .i64 a4,.int .i64 b4,.pointer p4,.int .i64 a5,.int .i64 b5,.pointer p5]) (.int .i64 0)).run Tryz.prog w=.ok (.agg #[.int .i64 a0,.int .i64 b0,.pointer p0]) w:=by kernel_rfl
theorem Tryz.ix230_1 (a0 b0 a1 b1 a2 b2 a3 b3 a4 b4 a5 b5:Int) (p0 p1 p2 p3 p4 p5:Option Addr) (w:World):(Instr.index 230 (.agg #[.int .i64 a0,.int .i64 b0,.pointer p0,.int .i64 a1,.int .i64 b1,.pointer p1,.int .i64 a2,.int .i64 b2,.pointer p2,.int .i64 a3,.int .i64 b3,.pointer p3,.int .i64 a4,.int .i64 b4,.pointer p4,.int .i64 a5,.int .i64 b5,.pointer p5]) (.int .i64 1)).run Tryz.prog w=.ok (.agg #[.int .i64 a1,.int .i64 b1,.pointer p1]) w:=by kernel_rfl
theorem Tryz.ix230_2 (a0 b0 a1 b1 a2 b2 a3 b3 a4 b4 a5 b5:Int) (p0 p1 p2 p3 p4 p5:Option Addr) (w:World):(Instr.index 230 (.agg #[.int .i64 a0,.int .i64 b0,.pointer p0,.int .i64 a1,.int .i64 b1,.pointer p1,.int .i64 a2,.int .i64 b2,.pointer p2,.int .i64 a3,.int .i64 b3,.pointer p3,.int .i64 a4,.int .i64 b4,.pointer p4,.int .i64 a5,.int .i64 b5,.pointer p5]) (.int .i64 2)).run Tryz.prog w=.ok (.agg #[.int .i64 a2,.int .i64 b2,.pointer p2]) w:=by kernel_rfl
theorem Tryz.ix230_3 (a0 b0 a1 b1 a2 b2 a3 b3 a4 b4 a5 b5:Int) (p0 p1 p2 p3 p4 p5:Option Addr) (w:World):(Instr.index 230 (.agg #[.int .i64 a0,.int .i64 b0,.pointer p0,.int .i64 a1,.int .i64 b1,.pointer p1,.int .i64 a2,.int .i64 b2,.pointer p2,.int .i64 a3,.int .i64 b3,.pointer p3,.int .i64 a4,.int .i64 b4,.pointer p4,.int .i64 a5,.int .i64 b5,.pointer p5]) (.int .i64 3)).run Tryz.prog w=.ok (.agg #[.int .i64 a3,.int .i64 b3,.pointer p3]) w:=by kernel_rfl
theorem Tryz.ix230_4 (a0 b0 a1 b1 a2 b2 a3 b3 a4 b4 a5 b5:Int) (p0 p1 p2 p3 p4 p5:Option Addr) (w:World):(Instr.index 230 (.agg #[.int .i64 a0,.int .i64 b0,.pointer p0,.int .i64 a1,.int .i64 b1,.pointer p1,.int .i64 a2,.int .i64 b2,.pointer p2,.int .i64 a3,.int .i64 b3,.pointer p3,.int .i64 a4,.int .i64 b4,.pointer p4,.int .i64 a5,.int .i64 b5,.pointer p5]) (.int .i64 4)).run Tryz.prog w=.ok (.agg #[.int .i64 a4,.int .i64 b4,.pointer p4]) w:=by kernel_rfl
theorem Tryz.ix230_5 (a0 b0 a1 b1 a2 b2 a3 b3 a4 b4 a5 b5:Int) (p0 p1 p2 p3 p4 p5:Option Addr) (w:World):(Instr.index 230 (.agg #[.int .i64 a0,.int .i64 b0,.pointer p0,.int .i64 a1,.int .i64 b1,.pointer p1,.int .i64 a2,.int .i64 b2,.pointer p2,.int .i64 a3,.int .i64 b3,.pointer p3,.int .i64 a4,.int .i64 b4,.pointer p4,.int .i64 a5,.int .i64 b5,.pointer p5]) (.int .i64 5)).run Tryz.prog w=.ok (.agg #[.int .i64 a5,.int .i64 b5,.pointer p5]) w:=by kernel_rfl
theorem tellLeaves_any (g o:Nat) (t:Int) (P:List (Int×Int×Int×Int)) (up:Nat->Option Addr) (w:World) (_hg:g < w.heap.size) (hr:w.rangeAt g (o+12) [.int .i64 (pa (findQ P t 0)),.int .i64 (pb (findQ P t 0)),.pointer (up 0),.int .i64 (pa (findQ P t 1)),.int .i64 (pb (findQ P t 1)),.pointer (up 1),.int .i64 (pa (findQ P t 2)),.int .i64 (pb (findQ P t 2)),.pointer (up 2),.int .i64 (pa (findQ P t 3)),.int .i64 (pb (findQ P t 3)),.pointer (up 3),.int .i64 (pa (findQ P t 4)),.int .i64 (pb (findQ P t 4)),.pointer (up 4),.int .i64 (pa (findQ P t 5)),.int .i64 (pb (findQ P t 5)),.pointer (up 5)]) (hk:∀ (i:Nat) p,P[i]? = some p->p.2.2.2≠0) :
  Calls Tryz.prog 142 #[.pointer (some ⟨g,o,none⟩),.int .i64 t] w fun e w'=>∃ a n c,e=.returned (.slice a n c)/\Sl w' 67 4 (.slice a n c) ((told P t 6).map qRow)/\Below w.heap.size w w'/\∀ b,Value.ownBlock (.slice a n c)=some b->w.heap.size<=b:=by
 obtain ⟨i0,hi0,hz0,hz1,hz2⟩:=info_parts Tryz.infoN67
 have HR:=hid hr
 have HK:=hid hk
 clear hr hk
 go_enter Tryz.func142,Tryz.ntmps142
 go_wp2_with (with_reducible (show wpList _ _ _ (⟨_,.load 230 _,_,_,_,none⟩ :: _) _ _);go_must (refine wpList_load_mid rfl 230 _ rfl g (o+12) rfl _ _ HR.out Tryz.underlying230 rfl (by kernel_rfl) ?_))
 go_loopw [5,12] (fun v i wr=>∃ (k n:Nat) (a:Option Addr) (c:Nat),k<=6/\i=.int .i64 k/\v=.slice a n c/\Hid ((told P t k).length=n/\Sl wr 67 4 (.slice a n c) ((told P t k).map qRow)/\Below w.heap.size w wr/\∀ b,Value.ownBlock (.slice a n c)=some b->w.heap.size<=b)) (fun _ i _=>6-(intOf i).toNat)
 case atStart=>exact ⟨0,0,none,0,Nat.zero_le _,rfl,rfl,rfl,Sl.nil w 67 4,Below.refl _ _,fun b hb=>by simp [Value.ownBlock] at hb⟩
 case round=>
  obtain ⟨k,n,a,c,hk,rfl,rfl,HI⟩:=hrel
  have hn:n<=6:=by have:=told_le P t k;have:=HI.out.1;omega
  by_cases hlt:k < 6
  ·have hix:∀ w,(Instr.index 230 (.agg #[.int .i64 (pa (findQ P t 0)),.int .i64 (pb (findQ P t 0)),.pointer (up 0),.int .i64 (pa (findQ P t 1)),.int .i64 (pb (findQ P t 1)),.pointer (up 1),.int .i64 (pa (findQ P t 2)),.int .i64 (pb (findQ P t 2)),.pointer (up 2),.int .i64 (pa (findQ P t 3)),.int .i64 (pb (findQ P t 3)),.pointer (up 3),.int .i64 (pa (findQ P t 4)),.int .i64 (pb (findQ P t 4)),.pointer (up 4),.int .i64 (pa (findQ P t 5)),.int .i64 (pb (findQ P t 5)),.pointer (up 5)]) (.int .i64 k)).run Tryz.prog w=.ok (.agg #[.int .i64 (pa (findQ P t k)),.int .i64 (pb (findQ P t k)),.pointer (up k)]) w:=by
    intro w
    have h6:k=0\/k=1\/k=2\/k=3\/k=4\/k=5:=by omega
    rcases h6 with rfl | rfl | rfl | rfl | rfl | rfl
    ·exact Tryz.ix230_0 _ _ _ _ _ _ _ _ _ _ _ _ _ _ _ _ _ _ w
    ·exact Tryz.ix230_1 _ _ _ _ _ _ _ _ _ _ _ _ _ _ _ _ _ _ w
    ·exact Tryz.ix230_2 _ _ _ _ _ _ _ _ _ _ _ _ _ _ _ _ _ _ w
    ·exact Tryz.ix230_3 _ _ _ _ _ _ _ _ _ _ _ _ _ _ _ _ _ _ w
    ·exact Tryz.ix230_4 _ _ _ _ _ _ _ _ _ _ _ _ _ _ _ _ _ _ w
    ·exact Tryz.ix230_5 _ _ _ _ _ _ _ _ _ _ _ _ _ _ _ _ _ _ w
   have TN:Hid (pb (findQ P t k)=0->told P t (k+1)=told P t k):=told_no HK.out
   have TY:Hid (pb (findQ P t k)≠0->(told P t (k+1)).map qRow=(told P t k).map qRow ++ [[.int .i64 t,.int .i64 k,.int .i64 (pa (findQ P t k)),.int .i64 (pb (findQ P t k))]]):=told_yes
   generalize pa (findQ P t k)=A at hix TY
   generalize pb (findQ P t k)=B at hix TY TN
   by_cases hB:B=0
   ·have hB':(B != 0)=false:=by simp [hB]
    have HB:=hid hB
    clear hB
    go_wp2
    refine ⟨⟨k+1,n,a,c,by omega,by go_num,rfl,?_⟩,by simp [intOf];omega⟩
    have e:=TN.out HB.out
    exact ⟨by rw [e];exact HI.out.1,by rw [e];exact HI.out.2.1.alloc _,HI.out.2.2.1.alloc HI.out.2.2.1.size _,HI.out.2.2.2⟩
   ·have hB':(B != 0)=true:=by simp [hB]
    have HB:=hid hB
    clear hB
    go_wp2_with (at_builtin;go_must (refine wpList_append_sl _ rfl _ _ 30 rfl 67 i0 _ 4 32 Tryz.underlying30 hi0 hz0 hz1 hz2 rfl (by decide) (.slice a n c) ((told P t k).map qRow) rfl ((HI.out.2.1.alloc _).alloc _) ⟨wr.heap.size+1,0,none⟩ 1 1 [[.int .i64 t,.int .i64 k,.int .i64 A,.int .i64 B]] rfl rfl (by decide) (by simp) (fun j u h=>cell_news2 wr _ #[.int .i64 t,.int .i64 k,.int .i64 A,.int .i64 B] 67 j u (by simpa using h)) (fun u hu=>by simp at hu;rcases hu with rfl | rfl | rfl | rfl <;> rfl) (by have:=HI.out.1;rw [List.length_map];unfold maxLen;omega) (by have:=HI.out.1;rw [List.length_map];omega) ?_);intro a4 c4 w4 G4)
    rw [List.length_map] at G4
    have e:=TY.out HB.out
    have el:(told P t (k+1)).length=(told P t k).length+1:=by have:=congrArg List.length e;simpa using this
    have F4:Fr (fun q=>w.heap.size<=q) wr w4:=G4.fr (((Fr.refl _ wr).alloc _).alloc _) (fun q hq _=>HI.out.2.2.2 q hq)
    refine ⟨⟨k+1,_,a4,c4,by omega,by go_num,rfl,el,by rw [e];exact G4.sl,HI.out.2.2.1.trans (F4.to_below HI.out.2.2.1.size (fun _ h=>h)),fun b hb=>?_⟩,by simp [intOf];omega⟩
    rcases G4.at_ b hb with h | h
    ·have:=HI.out.2.2.1.size
     simp at h
     omega
    ·exact HI.out.2.2.2 b h
  ·have hk6:k=6:=by omega
   subst hk6
   go_wp2
   go_ret
   exact ⟨_,_,_,rfl,HI.out.2.1,HI.out.2.2.1,HI.out.2.2.2⟩
end Go.Proofs.YteejjgbeknnmeaaGreatDoor
