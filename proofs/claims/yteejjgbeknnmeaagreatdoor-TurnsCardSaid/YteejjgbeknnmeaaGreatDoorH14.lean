import Derived.Test.YteejjgbeknnmeaaGreatDoorH01
import Derived.Test.YteejjgbeknnmeaaGreatDoorH08
import Derived.Deep.QuietTactic
import Derived.BigQuiet
import Derived.Test.YteejjgbeknnmeaaGreatDoorH13
import Derived.Test.YteejjgbeknnmeaaGreatDoorH09
import Derived.Test.YteejjgbeknnmeaaGreatDoorH04
import Derived.Deep.RegionLaw
import Derived.Deep.RegionLawGrows
import Derived.Test.YteejjgbeknnmeaaGreatDoorH10
set_option maxRecDepth 100000
set_option maxHeartbeats 20000000
namespace Go.Proofs.YteejjgbeknnmeaaGreatDoor
open Go.RowKit
theorem between_any (n lo hi:Int) (w:World):Calls Tryz.prog 132 #[.int .i64 n,.int .i64 lo,.int .i64 hi] w fun e w'=>e=.returned (.bool (inI n lo hi))/\w'=w:=by
 unfold inI
 by_cases h1:lo<=n
 ·have d1:decide (lo<=n)=true:=by simpa using h1
  go_enter Tryz.func132,Tryz.ntmps132
  go_wp2
  go_ret
  exact ⟨by simp [h1],rfl⟩
 ·have d1:decide (lo<=n)=false:=by simpa using h1
  go_enter Tryz.func132,Tryz.ntmps132
  go_wp2
  go_ret
  exact ⟨by simp,rfl⟩
theorem btw {n lo hi:Int}{v:Bool}(f:inI n lo hi=v) (w:World):Calls Tryz.prog 132 #[.int .i64 n,.int .i64 lo,.int .i64 hi] w fun e w'=>e=.returned (.bool v)/\w'=w:=by rw [<- f];exact between_any n lo hi w
theorem msT {k:Nat}{m:Ms}(f1:inI m.dst (-1) 5=true) (f2:decide ((m.words.length:Int)<=4)=true) (f3:inI m.item (-1) 5=true) (f4:inI m.rt 0 3=true) (f5:inI m.frm (-2) ((k:Int)-1)=true) (f6:inI m.win (-1) 5=true) (f7:decide (-1<=m.wait)=true) (f8:(m.dst != -1)=true\/(m.frm != -2)=true):isMs k m=true:=by
 have a:=inI_true.1 f1
 have b:=inI_true.1 f5
 have e:(decide (0<=m.dst) || decide (-2 < m.frm))=true:=by
  simp at f8 ⊢
  omega
 simp only [isMs,f1,f2,f3,f4,f5,f6,f7,e,Bool.and_true]
theorem msF {k:Nat}{m:Ms}(f8:(m.dst != -1)=false) (f9:(m.frm != -2)=false):isMs k m=false:=by
 simp at f8 f9
 simp [isMs,f8,f9]
open Go.RowKit
theorem bits_all {r a:Int}(h:r=0\/r=1\/r=2\/r=3) (ha:a=1\/a=2\/a=3):(bits .and .i64 r a == a)=hasRt r a:=by
 rcases h with rfl | rfl | rfl | rfl <;> rcases ha with rfl | rfl | rfl <;> rfl
theorem findQ_mem {L:List (Int×Int×Int×Int)}{s n:Int}{p:Int×Int×Int×Int}(h:findQ L s n=some p):∃ i:Nat,L[i]? = some p:=List.getElem?_of_mem (List.mem_of_find?_eq_some h)
theorem pb_rt {L:List (Int×Int×Int×Int)}{sp h:Int}(ho:∀ (i:Nat) p,L[i]? = some p->okQ sp h p) (s n:Int):pb (findQ L s n)=0\/pb (findQ L s n)=1\/pb (findQ L s n)=2\/pb (findQ L s n)=3:=by
 rcases hf:findQ L s n with _ | p
 ·exact .inl rfl
 ·obtain ⟨i,hi⟩:=findQ_mem hf
  have:=ho i p hi
  have h1:=this.2.2.2.2.2.2.1
  have h2:=this.2.2.2.2.2.2.2
  simp only [pb]
  omega
theorem passes_left {w w2 w':World} {B:Bk} {S:Nat->Prop} {M:PM} {K:RM} {cs:Array Value} {rv:Nat->Value} {sl:List (Sv×Sv×Value)} {t s n:Nat} {Q:List (Int×Int×Int×Int)} (h:MH w2 B S M K cs rv sl t s n) (b:Below w.heap.size w w2) (P:PmAt w' B { M with passes:=Q,leaves:=M.leaves } cs rv sl/\Fr (fun k=>k=B.gs) w2 w'):KLeft B S none_ { K with passes:=Q } w w':=
 ⟨_,⟨⟨S,⟨cs,rv,sl,P.1,h.hS⟩,fun _ h=>.inl h⟩,(Fr.of_below b S).trans (P.2.mono (fun k _ e=>(h.hS k).2 (.inl (.inr (.inr (.inl e))))))⟩,⟨h.r.len,h.r.th,h.r.rows,h.r.wl,h.r.sp,rfl,h.r.lf,h.r.fr,h.r.cl⟩⟩
section
variable (B:Bk) (S:Nat->Prop) (M:PM) (K:RM) (cs:Array Value) (rv:Nat->Value) (sl:List (Sv×Sv×Value)) (t s n:Nat) (w:World)
theorem drop_yes (h:MH w B S M K cs rv sl t s n) (hc:¬ K.cur < 0) (a:Int) :
  Calls Tryz.prog 88 #[.pointer (some ⟨B.x,0,none⟩),.int .i64 a] w fun e w'=>Ans (K.drop a).1 e w w'/\KLeft B S none_ (K.drop a).2 w w':=by
 have HH:=hid h
 have hne:=e3_ne
 have HN:=hid hc
 clear hc
 by_cases hp:0<=a/\a < 6
 ·obtain ⟨k,rfl⟩:=Int.eq_ofNat_of_zero_le hp.1
  have hk:k < 6:=by omega
  have i1:inI (k:Int) 0 5=true:=inI_true.2 (by omega)
  have HC:=hid (slot_yes B S M K cs rv sl t s n w h k hk)
  clear h hp
  go_enter Tryz.func88,Tryz.ntmps88
  go_wp2_with fail
  refine HC.out.mono ?_
  rintro e w2 ⟨rfl,B2⟩
  have KC:=(HH.out.below B2).slot hk
  have kp:=KC.1
  have kq:=KC.2
  clear KC
  rcases hf:findQ K.passes s k with _ | p
  ·have E:=hid (show K.drop k=(4,K) by unfold RM.drop;rw [if_neg (show ¬ K.cur < 0 by have:=HN.out;omega),if_pos i1,HH.out.h,hf])
   rw [hf] at kp kq
   simp only [pa,pb] at kp kq
   have HB:=hid B2
   clear B2 hf
   go_wp2
   go_ret
   rw [E.out]
   exact ⟨.inr ⟨_,rfl,HB.out⟩,HH.out.kr.left HB.out⟩
  ·have E:=hid (show K.drop k=(0,{ K with passes:=outQ K.passes s k }) by unfold RM.drop;rw [if_neg (show ¬ K.cur < 0 by have:=HN.out;omega),if_pos i1,HH.out.h,hf])
   obtain ⟨i,hi⟩:=findQ_mem hf
   have h4:=(HH.out.ok.oq i p hi).2.2.2.2.2.2.1
   have hz:(p.2.2.2 == 0)=false:=by simp;omega
   rw [hf] at kp kq
   simp only [pa,pb] at kp kq
   have fz:=(HH.out.below B2).m.sfro
   have ST:=(HH.out.below B2).m.setSlot (s:=s) (j:=k) (o:=none) (Q':=outQ K.passes s k) HH.out.lt hk (fun s' i=>by rw [HH.out.r.ps];exact outQ_find K.passes s k s' i)
   have HB:=hid (And.intro B2 ST)
   clear B2 ST hf hi h4
   go_wp2
   go_ret
   rw [E.out]
   exact ⟨.inl ⟨rfl,rfl⟩,passes_left (HH.out.below HB.out.1) HB.out.1 HB.out.2⟩
 ·have E:=hid (show K.drop a=(3,K) by unfold RM.drop;rw [if_neg (show ¬ K.cur < 0 by have:=HN.out;omega),if_neg];intro hc;have:=inI_true.1 hc;omega)
  have HC:=hid (slot_no B S M K cs rv sl t s n w h a hp)
  clear h hp
  go_enter Tryz.func88,Tryz.ntmps88
  go_wp2_with (go_at_call 139;refine HC.out.mono ?_;rintro e w2 ⟨rfl,B2⟩;replace B2:=hid B2)
  go_ret
  rw [E.out]
  exact ⟨.inr ⟨_,rfl,B2.out⟩,HH.out.kr.left B2.out⟩
theorem derive_yes (h:MH w B S M K cs rv sl t s n) (hc:¬ K.cur < 0) (a b r:Int) :
  Calls Tryz.prog 138 #[.pointer (some ⟨B.x,0,none⟩),.int .i64 a,.int .i64 b,.int .i64 r] w fun e w'=>(((K.derive a b r).1=0/\e=.returned .nilIface)\/(e=.returned (.iface 160 (.agg #[.int .i64 (K.derive a b r).1]))/\Below w.heap.size w w'))/\KLeft B S none_ (K.derive a b r).2 w w':=by
 have HH:=hid h
 have hne:=e3_ne
 have HN:=hid hc
 clear hc
 by_cases hp:0<=a/\a < 6
 ·obtain ⟨k,rfl⟩:=Int.eq_ofNat_of_zero_le hp.1
  have hk:k < 6:=by omega
  have i1:inI (k:Int) 0 5=true:=inI_true.2 (by omega)
  have HC:=hid (slot_yes B S M K cs rv sl t s n w h k hk)
  by_cases hq:0<=b/\b < 6
  ·obtain ⟨j,rfl⟩:=Int.eq_ofNat_of_zero_le hq.1
   have hj:j < 6:=by omega
   have i2:inI (j:Int) 0 5=true:=inI_true.2 (by omega)
   have HD:Hid (∀ w2,Below w.heap.size w w2->Calls Tryz.prog 139 #[.pointer (some ⟨B.x,0,none⟩),.int .i64 j] w2 fun e w'=>e=.returned (.tuple #[.pointer (some ⟨B.gs,s*30+j*2,none⟩),.nilIface])/\Below w2.heap.size w2 w'):=fun w2 b=>slot_yes B S M K cs rv sl t s n w2 (HH.out.below b) j hj
   clear h hp hq
   cases i3:inI r 1 3 with
   | true=>
    have hr:=inI_true.1 i3
    have hb:=bits_all (pb_rt HH.out.ok.oq s k) (show r=1\/r=2\/r=3 by omega)
    clear hr
    go_enter Tryz.func138,Tryz.ntmps138
    go_wp2_with fail
    refine HC.out.mono ?_
    rintro e w2 ⟨rfl,B2⟩
    have HB2:=hid B2
    clear B2
    go_wp2_with fail
    refine (HD.out w2 HB2.out).mono ?_
    rintro e w3 ⟨rfl,B3⟩
    have B2:Below w.heap.size w w3:=HB2.out.trans (B3.mono HB2.out.size)
    have KC:=(HH.out.below B2).slot hk
    have kp:=KC.1
    have kq:=KC.2
    have KD:=(HH.out.below B2).slot hj
    have dp:=KD.1
    have dq:=KD.2
    clear KC KD B3
    cases hh:hasRt (pb (findQ K.passes s k)) r with
    | false=>
     have E:=hid (show K.derive k j r=(4,K) by
      unfold RM.derive;rw [if_neg (show ¬ K.cur < 0 by have:=HN.out;omega),if_pos ⟨i1,i2,i3⟩,HH.out.h]
      rcases hf:findQ K.passes s k with _ | p
      ·rfl
      ·rw [hf] at hh;simp only [pb] at hh;simp [hh])
     rw [hh] at hb
     have HB:=hid B2
     generalize pb (findQ K.passes s k)=b1 at *
     clear B2 hh
     go_wp2_with (first
      | (go_at_call 132;refine (between_any _ _ _ _).mono ?_;rintro e w4 ⟨rfl,rfl⟩;rw [i3])
      | (go_at_call 137;refine (coreHolds_any _ _ _).mono ?_;rintro e w4 ⟨rfl,rfl⟩;rw [hb]))
     go_ret
     rw [E.out]
     exact ⟨.inr ⟨rfl,HB.out⟩,HH.out.kr.left HB.out⟩
    | true=>
     obtain ⟨p,hf⟩:∃ p,findQ K.passes s k=some p:=by
      rcases hf:findQ K.passes s k with _ | p
      ·rw [hf] at hh
       have:(0:Int)=r:=by simpa [hasRt,pb] using hh
       have:=inI_true.1 i3
       omega
      ·exact ⟨p,rfl⟩
     have E:=hid (show K.derive k j r=(0,{ K with passes:=putQ K.passes s j p.2.2.1 r }) by
      unfold RM.derive;rw [if_neg (show ¬ K.cur < 0 by have:=HN.out;omega),if_pos ⟨i1,i2,i3⟩,HH.out.h,hf]
      rw [hf] at hh;simp only [pb] at hh;simp [hh])
     rw [hh] at hb
     rw [hf] at kp kq hb
     simp only [pa,pb] at kp kq hb
     have fz:=(HH.out.below B2).m.sfro
     have ST:=(HH.out.below B2).m.setSlot (s:=s) (j:=j) (o:=some (s,j,p.2.2.1,r)) (Q':=putQ K.passes s j p.2.2.1 r) HH.out.lt hj (fun s' i=>by rw [HH.out.r.ps];exact putQ_find K.passes s j p.2.2.1 r s' i)
     simp only [pa,pb] at ST
     have HB:=hid (And.intro B2 ST)
     generalize pb (findQ K.passes s j)=b1 at *
     generalize pa (findQ K.passes s j)=a1 at *
     clear B2 hh hf ST
     go_wp2_with (first
      | (go_at_call 132;refine (between_any _ _ _ _).mono ?_;rintro e w4 ⟨rfl,rfl⟩;rw [i3])
      | (go_at_call 137;refine (coreHolds_any _ _ _).mono ?_;rintro e w4 ⟨rfl,rfl⟩;rw [hb]))
     go_ret
     rw [E.out]
     exact ⟨.inl ⟨rfl,rfl⟩,passes_left (HH.out.below HB.out.1) HB.out.1 HB.out.2⟩
   | false=>
    have E:=hid (show K.derive k j r=(3,K) by unfold RM.derive;rw [if_neg (show ¬ K.cur < 0 by have:=HN.out;omega),if_neg];intro hc;rw [i3] at hc;exact absurd hc.2.2 (by decide))
    go_enter Tryz.func138,Tryz.ntmps138
    go_wp2_with fail
    refine HC.out.mono ?_
    rintro e w2 ⟨rfl,B2⟩
    have HB2:=hid B2
    clear B2
    go_wp2_with fail
    refine (HD.out w2 HB2.out).mono ?_
    rintro e w3 ⟨rfl,B3⟩
    have B2:=hid (HB2.out.trans (B3.mono HB2.out.size))
    clear B3
    go_wp2_with (go_at_call 132;refine (between_any _ _ _ _).mono ?_;rintro e w4 ⟨rfl,rfl⟩;rw [i3])
    go_ret
    rw [E.out]
    exact ⟨.inr ⟨rfl,B2.out⟩,HH.out.kr.left B2.out⟩
  ·have E:=hid (show K.derive k b r=(3,K) by unfold RM.derive;rw [if_neg (show ¬ K.cur < 0 by have:=HN.out;omega),if_neg];intro hc;have:=inI_true.1 hc.2.1;omega)
   have HQ:=hid hq
   clear h hp hq
   go_enter Tryz.func138,Tryz.ntmps138
   go_wp2_with fail
   refine HC.out.mono ?_
   rintro e w2 ⟨rfl,B2⟩
   have HB2:=hid B2
   clear B2
   go_wp2_with fail
   refine (slot_no B S M K cs rv sl t s n w2 (HH.out.below HB2.out) b HQ.out).mono ?_
   rintro e w3 ⟨rfl,B3⟩
   have B2:=hid (HB2.out.trans (B3.mono HB2.out.size))
   clear B3
   go_wp2
   go_ret
   rw [E.out]
   exact ⟨.inr ⟨rfl,B2.out⟩,HH.out.kr.left B2.out⟩
 ·have E:=hid (show K.derive a b r=(3,K) by unfold RM.derive;rw [if_neg (show ¬ K.cur < 0 by have:=HN.out;omega),if_neg];intro hc;have:=inI_true.1 hc.1;omega)
  have HC:=hid (slot_no B S M K cs rv sl t s n w h a hp)
  clear h hp
  go_enter Tryz.func138,Tryz.ntmps138
  go_wp2_with (go_at_call 139;refine HC.out.mono ?_;rintro e w2 ⟨rfl,B2⟩;replace B2:=hid B2)
  go_ret
  rw [E.out]
  exact ⟨.inr ⟨rfl,B2.out⟩,HH.out.kr.left B2.out⟩
end
section
variable (B:Bk) (S:Nat->Prop) (K:RM) (n:Nat) (w:World)
theorem mDrop_any (h:KR w B S K) (ok:K.Ok n) (a:Int) :
  Calls Tryz.prog 88 #[.pointer (some ⟨B.x,0,none⟩),.int .i64 a] w fun e w'=>Ans (K.drop a).1 e w w'/\KLeft B S none_ (K.drop a).2 w w':=by
 by_cases hc:K.cur < 0
 ·have HC:=hid (slot_none B S K w h ok.ft hc a)
  have E:=hid (show K.drop a=(2,K) by unfold RM.drop;rw [if_pos hc])
  have HH:=hid h
  have hne:=e2_ne
  clear h hc ok
  go_enter Tryz.func88,Tryz.ntmps88
  go_wp2_with (go_at_call 139;refine HC.out.mono ?_;rintro e w2 ⟨rfl,B2⟩;replace B2:=hid B2)
  go_ret
  rw [E.out]
  exact ⟨.inr ⟨_,rfl,B2.out⟩,HH.out.left B2.out⟩
 ·obtain ⟨M,cs,rv,sl,t,s,h⟩:=MH.of h ok hc
  exact drop_yes B S M K cs rv sl t s n w h hc a
theorem derive_any (h:KR w B S K) (ok:K.Ok n) (a b r:Int) :
  Calls Tryz.prog 138 #[.pointer (some ⟨B.x,0,none⟩),.int .i64 a,.int .i64 b,.int .i64 r] w fun e w'=>(((K.derive a b r).1=0/\e=.returned .nilIface)\/(e=.returned (.iface 160 (.agg #[.int .i64 (K.derive a b r).1]))/\Below w.heap.size w w'))/\KLeft B S none_ (K.derive a b r).2 w w':=by
 by_cases hc:K.cur < 0
 ·have HC:=hid (slot_none B S K w h ok.ft hc a)
  have E:=hid (show K.derive a b r=(2,K) by unfold RM.derive;rw [if_pos hc])
  have HH:=hid h
  have hne:=e2_ne
  clear h hc ok
  go_enter Tryz.func138,Tryz.ntmps138
  go_wp2_with (go_at_call 139;refine HC.out.mono ?_;rintro e w2 ⟨rfl,B2⟩;replace B2:=hid B2)
  go_ret
  rw [E.out]
  exact ⟨.inr ⟨rfl,B2.out⟩,HH.out.left B2.out⟩
 ·obtain ⟨M,cs,rv,sl,t,s,h⟩:=MH.of h ok hc
  exact derive_yes B S M K cs rv sl t s n w h hc a b r
theorem mDerive_any (h:KR w B S K) (ok:K.Ok n) (a b r:Int) :
  Calls Tryz.prog 87 #[.pointer (some ⟨B.x,0,none⟩),.int .i64 a,.int .i64 b,.int .i64 r] w fun e w'=>Ans (K.derive a b r).1 e w w'/\KLeft B S none_ (K.derive a b r).2 w w':=by
 have HC:=hid (derive_any B S K n w h ok a b r)
 clear h ok
 generalize (K.derive a b r).1=cd at *
 generalize (K.derive a b r).2=K2 at *
 go_enter Tryz.func87,Tryz.ntmps87
 go_wp2_with fail
 refine HC.out.mono ?_
 rintro e w2 ⟨⟨hz,rfl⟩ | ⟨rfl,BB⟩,H2⟩
 ·have HB:=hid (And.intro hz H2)
  clear H2 hz
  go_wp2
  go_ret
  exact ⟨.inl ⟨HB.out.1,rfl⟩,HB.out.2⟩
 ·have HB:=hid (And.intro BB H2)
  clear H2 BB
  go_wp2
  go_ret
  exact ⟨.inr ⟨_,rfl,HB.out.1⟩,HB.out.2⟩
end
open Go.RowKit
theorem between_dec (n a b:Int) (w:World):Calls Tryz.prog 132 #[.int .i64 n,.int .i64 a,.int .i64 b] w fun e w'=>e=.returned (.bool (decide (a<=n/\n<=b)))/\w'=w:=between_any n a b w
theorem noConfig_any (w:World):Calls Tryz.prog 151 #[] w fun e w'=>e=.returned (.iface 160 (.agg #[.int .i64 1]))/\w'=w:=by
 go_enter Tryz.func151,Tryz.ntmps151
 go_wp2
 go_ret
 exact ⟨rfl,rfl⟩
def thRow (u:Int×Int×Int×Int):List Value:=[.int .i64 u.1,.int .i64 u.2.1,.int .i64 u.2.2.2,.int .i64 1,.int .i64 0,.int .i64 (-1),.slice none 0 0,.int .i64 (-1),.int .i64 0,.slice none 0 0,.int .i64 0,.int .i64 0,.int .i64 0,.int .i64 0,.int .i64 0,.int .u64 0,.slice none 0 0]
def spRows (n:Nat) (Q L:List (Int×Int×Int×Int)):List (List Value):=spRowsM n 0 Q (L.map lfOf)
abbrev c00:Int×(Nat->Int):=(0,fr0)
structure MAt (w:World) (x:Nat) (ty:TypeId) (cs:Array Value) (cl:Int×(Nat->Int)) (ts:List (Int×Int×Int×Int)) (n:Nat) (Q L:List (Int×Int×Int×Int)) (ln:Nat->List Nat) (vt:Value) (rv:Nat->Value) (vs:Value):Prop where
 blk:w.heap[x]? = some (.cells cs ty (0,0))
 size:cs.size=39
 c0:cs[0]? = some (.int .u64 cl.1)
 c1:cs[1]? = some vt
 row:∀ r,r < 4->cs[2+r]? = some (rv r)
 c6:cs[6]? = some vs
 th:Sl w 158 17 vt (ts.map thRow)
 li:∀ r,r < 4->Sl w 3 1 (rv r) ((ln r).map lnRow)
 sp:Sl w 232 30 vs (spRows n Q L)
 n1:vt.ownBlock≠some x
 n2:∀ r,r < 4->(rv r).ownBlock≠some x
 n3:vs.ownBlock≠some x
 n4:∀ r,r < 4->∀ k,(rv r).ownBlock=some k->vt.ownBlock≠some k/\vs.ownBlock≠some k
 n5:∀ r s,r < 4->s < 4->r≠s->∀ k,(rv r).ownBlock=some k->(rv s).ownBlock≠some k
 n6:∀ k,vt.ownBlock=some k->vs.ownBlock≠some k
 fr:∀ j,j < 32->cs[7+j]? = some (.int .i64 (cl.2 j))
def MOwn (x:Nat) (vt:Value) (rv:Nat->Value) (vs:Value) (k:Nat):Prop:=k=x\/vt.ownBlock=some k\/(∃ r,r < 4/\(rv r).ownBlock=some k)\/vs.ownBlock=some k
section
variable {w w':World}{x:Nat}{ty:TypeId}{cs:Array Value}{cl:Int×(Nat->Int)}{ts:List (Int×Int×Int×Int)}{n:Nat}{Q L:List (Int×Int×Int×Int)}{ln:Nat->List Nat}{vt:Value}{rv:Nat->Value}{vs:Value}
theorem MAt.kept (h:MAt w x ty cs cl ts n Q L ln vt rv vs){T:Nat->Prop}(hf:Fr T w w') (ht:∀ k,MOwn x vt rv vs k->¬ T k):MAt w' x ty cs cl ts n Q L ln vt rv vs:=
 ⟨(hf.block x (Array.getElem?_eq_some_iff.1 h.blk).1 (ht x (.inl rfl))).trans h.blk,h.size,h.c0,h.c1,h.row,h.c6,h.th.kept hf (fun k hk=>ht k (.inr (.inl hk))),fun r hr=>(h.li r hr).kept hf (fun k hk=>ht k (.inr (.inr (.inl ⟨r,hr,hk⟩)))),h.sp.kept hf (fun k hk=>ht k (.inr (.inr (.inr hk)))),
 h.n1,h.n2,h.n3,h.n4,h.n5,h.n6,h.fr⟩
theorem MAt.below (h:MAt w x ty cs cl ts n Q L ln vt rv vs) (hb:Below w.heap.size w w'):MAt w' x ty cs cl ts n Q L ln vt rv vs:=h.kept (Fr.of_below hb (fun _=>False)) (fun _ _ h=>h)
theorem MAt.lt (h:MAt w x ty cs cl ts n Q L ln vt rv vs){k:Nat}(hk:MOwn x vt rv vs k):k < w.heap.size:=by
 rcases hk with rfl | hk | ⟨r,hr,hk⟩ | hk
 ·exact (Array.getElem?_eq_some_iff.1 h.blk).1
 ·exact h.th.lt hk
 ·exact (h.li r hr).lt hk
 ·exact h.sp.lt hk
theorem MAt.cell (h:MAt w x ty cs cl ts n Q L ln vt rv vs) (j:Nat):w.cell? ⟨x,j,none⟩=cs[j]?:=cell_of_row w x j _ _ _ h.blk
end
theorem th_last (ts:List (Int×Int×Int×Int)) (t:Nat) (m:Int):(ts.modify t (fun u=>(u.1,u.2.1,m,u.2.2.2))).map thRow=ts.map thRow:=by
 apply List.ext_getElem?
 intro i
 simp only [List.getElem?_map,List.getElem?_modify]
 by_cases e:t=i <;> simp [e] <;> (cases ts[i]? <;> rfl)
theorem MAt.setRow {w w':World}{x:Nat}{ty:TypeId}{cs:Array Value}{cl:Int×(Nat->Int)}{ts:List (Int×Int×Int×Int)}{n:Nat}{Q L:List (Int×Int×Int×Int)}{ln:Nat->List Nat}{vt:Value}{rv:Nat->Value}{vs:Value}
  (h:MAt w x ty cs cl ts n Q L ln vt rv vs){r t:Nat}(hr:r < 4){v':Value}(hb:w'.heap[x]? = some (.cells (cs.setIfInBounds (2+r) v') ty (0,0))) (hs:Sl w' 3 1 v' (((ln r).erase t ++ [t]).map lnRow)) (hf:Fr (fun k=>k=x\/(rv r).ownBlock=some k) w w')
  (hn:∀ k,v'.ownBlock=some k->w.heap.size<=k\/(rv r).ownBlock=some k) (last:Int) :
  MAt w' x ty (cs.setIfInBounds (2+r) v') cl (ts.modify t (fun u=>(u.1,u.2.1,last,u.2.2.2))) n Q L (comeLast ln r t) vt (fun s=>if s=r then v' else rv s) vs/\(∀ k,MOwn x vt (fun s=>if s=r then v' else rv s) vs k->MOwn x vt rv vs k\/w.heap.size<=k):=by
 have hx:=(Array.getElem?_eq_some_iff.1 h.blk).1
 have nv:∀ k,v'.ownBlock=some k->k≠x/\vt.ownBlock≠some k/\vs.ownBlock≠some k/\∀ s,s < 4->s≠r->(rv s).ownBlock≠some k:=by
  intro k hk
  rcases hn k hk with h1 | h1
  ·exact ⟨by omega,fun e=>by have:=h.th.lt e;omega,fun e=>by have:=h.sp.lt e;omega,fun s hs _ e=>by have:=(h.li s hs).lt e;omega⟩
  ·exact ⟨fun e=>h.n2 r hr (e ▸ h1),(h.n4 r hr k h1).1,(h.n4 r hr k h1).2,fun s hs hne=>h.n5 r s hr hs (Ne.symm hne) k h1⟩
 refine ⟨⟨hb,by simpa using h.size,?_,?_,?_,?_,?_,?_,h.sp.kept hf (fun k hk q=>?_),h.n1,?_,h.n3,?_,?_,h.n6,fun j hj=>by rw [Array.getElem?_setIfInBounds_ne (by omega)];exact h.fr j hj⟩,?_⟩
 ·rw [Array.getElem?_setIfInBounds_ne (by omega)];exact h.c0
 ·rw [Array.getElem?_setIfInBounds_ne (by omega)];exact h.c1
 ·intro s hs4
  by_cases e:s=r
  ·subst e
   rw [if_pos rfl,Array.getElem?_setIfInBounds_self_of_lt (by have:=h.size;omega)]
  ·rw [if_neg e,Array.getElem?_setIfInBounds_ne (by omega)];exact h.row s hs4
 ·rw [Array.getElem?_setIfInBounds_ne (by omega)];exact h.c6
 ·rw [th_last]
  refine h.th.kept hf (fun k hk q=>?_)
  rcases q with q | q
  ·exact h.n1 (q ▸ hk)
  ·exact (h.n4 r hr k q).1 hk
 ·intro s hs4
  by_cases e:s=r
  ·subst e
   simp only [comeLast,if_pos]
   exact hs
  ·simp only [comeLast,if_neg e]
   refine (h.li s hs4).kept hf (fun k hk q=>?_)
   rcases q with q | q
   ·exact h.n2 s hs4 (q ▸ hk)
   ·exact h.n5 r s hr hs4 (Ne.symm e) k q hk
 ·rcases q with q | q
  ·exact h.n3 (q ▸ hk)
  ·exact (h.n4 r hr k q).2 hk
 ·intro s hs4
  by_cases e:s=r
  ·simp only [if_pos e];exact fun q=>(nv x q).1 rfl
  ·simp only [if_neg e];exact h.n2 s hs4
 ·intro s hs4 k hk
  by_cases e:s=r
  ·simp only [if_pos e] at hk;exact ⟨(nv k hk).2.1,(nv k hk).2.2.1⟩
  ·simp only [if_neg e] at hk;exact h.n4 s hs4 k hk
 ·intro s q hs4 hq4 hne k hk
  by_cases e:s=r
  ·simp only [if_pos e] at hk
   simp only [if_neg (show ¬ q=r by omega)]
   exact (nv k hk).2.2.2 q hq4 (by omega)
  ·simp only [if_neg e] at hk
   by_cases e2:q=r
   ·simp only [if_pos e2]
    exact fun h2=>(nv k h2).2.2.2 s hs4 e hk
   ·simp only [if_neg e2];exact h.n5 s q hs4 hq4 hne k hk
 ·rintro k (hk | hk | ⟨s,hs4,hk⟩ | hk)
  ·exact .inl (.inl hk)
  ·exact .inl (.inr (.inl hk))
  ·by_cases e:s=r
   ·simp only [if_pos e] at hk
    rcases hn k hk with h1 | h1
    ·exact .inr h1
    ·exact .inl (.inr (.inr (.inl ⟨r,hr,h1⟩)))
   ·simp only [if_neg e] at hk
    exact .inl (.inr (.inr (.inl ⟨s,hs4,hk⟩)))
  ·exact .inl (.inr (.inr (.inr hk)))
theorem MAt.setSp {w:World}{x:Nat}{ty:TypeId}{cs:Array Value}{cl:Int×(Nat->Int)}{ts:List (Int×Int×Int×Int)}{n:Nat}{Q L:List (Int×Int×Int×Int)}{ln:Nat->List Nat}{vt:Value}{rv:Nat->Value}{g m c:Nat}
  (h:MAt w x ty cs cl ts n Q L ln vt rv (.slice (some ⟨g,0,none⟩) m c)){s o:Nat}(hs:s < n) (vs:List Value) (ho:o+vs.length<=30){Q' L':List (Int×Int×Int×Int)}(hr:(spRows n Q L).set s (setAt (spRowM 0 Q (L.map lfOf) s) o vs)=spRows n Q' L') :
  MAt (w.setCells g (s*30+o) vs) x ty cs cl ts n Q' L' ln vt rv (.slice (some ⟨g,0,none⟩) m c)/\Fr (fun k=>k=g) w (w.setCells g (s*30+o) vs):=by
 have hl:s < (spRows n Q L).length:=by simp [spRows,spRowsM,hs]
 have R:=Sl.run vs o w _ h.sp hl ho
 have er:(spRows n Q L)[s]=spRowM 0 Q (L.map lfOf) s:=by simp [spRows,spRowsM]
 rw [er,hr] at R
 have F:=R.2
 exact ⟨⟨(F.block x (Array.getElem?_eq_some_iff.1 h.blk).1 (fun q=>h.n3 (by rw [q];rfl))).trans h.blk,h.size,h.c0,h.c1,h.row,h.c6,h.th.kept F (fun k hk q=>h.n6 k hk (by rw [q];rfl)),fun r hr=>(h.li r hr).kept F (fun k hk q=>(h.n4 r hr k hk).2 (by rw [q];rfl)),R.1,h.n1,h.n2,h.n3,h.n4,h.n5,h.n6,h.fr⟩,F⟩
theorem findQ_append (Q:List (Int×Int×Int×Int)) (p:Int×Int×Int×Int) (s n:Int):findQ (Q ++ [p]) s n=(findQ Q s n).or (if p.1=s/\p.2.1=n then some p else none):=by
 unfold findQ
 rw [List.find?_append]
 congr 1
 by_cases h:p.1=s/\p.2.1=n
 ·rw [if_pos h];simp [h.1,h.2]
 ·rw [if_neg h,List.find?_cons]
  have:(p.1 == s && p.2.1 == n)=false:=by
   rw [Bool.and_eq_false_iff]
   by_cases h1:p.1=s
   ·right;simp;exact fun h2=>h ⟨h1,h2⟩
   ·left;simpa using h1
  rw [this];rfl
theorem find_lfOf (L:List (Int×Int×Int×Int)) (s n:Int):findLf (L.map lfOf) s n=(findQ L s n).map lfOf:=by
 unfold findLf findQ
 rw [List.find?_map]
 rfl
theorem findQ_put {Q:List (Int×Int×Int×Int)}{s j a b:Int}(hn:findQ Q s j=none) (s' i:Int):findQ (Q ++ [(s,j,a,b)]) s' i=if s=s'/\j=i then some (s,j,a,b) else findQ Q s' i:=by
 rw [findQ_append]
 by_cases e:s=s'/\j=i
 ·obtain ⟨rfl,rfl⟩:=e;simp [hn]
 ·rw [if_neg e,if_neg e];simp
theorem rows_passes (n:Nat) (Q L:List (Int×Int×Int×Int)) (s j:Nat) (hs:s < n) (hj:j < 6) (a b:Int) (hn:findQ Q s j=none) :
  (spRows n Q L).set s (setAt (spRowM 0 Q (L.map lfOf) s) (j*2) [.int .i64 a,.int .i64 b])=spRows n (Q ++ [((s:Int),(j:Int),a,b)]) L:=
 rows_updP (o:=some ((s:Int),(j:Int),a,b)) n hs hj (findQ_put hn)
theorem rows_leaves (n:Nat) (Q L:List (Int×Int×Int×Int)) (s j:Nat) (hs:s < n) (hj:j < 6) (a b:Int) (hn:findQ L s j=none) :
  (spRows n Q L).set s (setAt (spRowM 0 Q (L.map lfOf) s) (12+j*3) [.int .i64 a,.int .i64 b,.pointer none])=spRows n Q (L ++ [((s:Int),(j:Int),a,b)]):=by
 have h:=rows_updL (gs:=0) (Q:=Q) (L:=L.map lfOf) (L':=(L ++ [((s:Int),(j:Int),a,b)]).map lfOf) (o:=some (lfOf ((s:Int),(j:Int),a,b))) n hs hj (fun s' i=>by
  rw [find_lfOf,find_lfOf,findQ_put hn]
  split <;> rfl)
 exact h
theorem sp_cells {w:World}{g m c n:Nat}{Q L:List (Int×Int×Int×Int)}(h:Sl w 232 30 (.slice (some ⟨g,0,none⟩) m c) (spRows n Q L)){s j:Nat}(hs:s < n) (hj:j < 6) :
  w.cell? ⟨g,s*30+j*2,none⟩=some (.int .i64 (pa (findQ Q s j)))/\w.cell? ⟨g,s*30+j*2+1,none⟩=some (.int .i64 (pb (findQ Q s j))) /\
  w.cell? ⟨g,s*30+12+j*3,none⟩=some (.int .i64 (pa (findQ L s j)))/\w.cell? ⟨g,s*30+12+j*3+1,none⟩=some (.int .i64 (pb (findQ L s j)))/\w.cell? ⟨g,s*30+12+j*3+2,none⟩=some (.pointer none):=by
 have R:=h.row (i:=s) (r:=spRowM 0 Q (L.map lfOf) s) (sprows_get hs)
 have a1:=six_at (Q:=Q) (s:=s) hj
 have a2:=pages_at (gs:=0) (L:=L.map lfOf) (s:=s) hj
 have ea:la (findLf (L.map lfOf) s j)=pa (findQ L s j)/\lb (findLf (L.map lfOf) s j)=pb (findQ L s j)/\lu 0 (findLf (L.map lfOf) s j)=.pointer none:=by
  rw [find_lfOf]
  cases findQ L s j <;> exact ⟨rfl,rfl,rfl⟩
 rw [ea.1,ea.2.1,ea.2.2] at a2
 have L1:∀ k v,(six Q s)[k]? = some v->w.cell? ⟨g,s*30+k,none⟩=some v:=fun k v hv=>R k v (by unfold spRowM;rw [List.getElem?_append_left (List.getElem?_eq_some_iff.1 hv).1];exact hv)
 have L2:∀ k v,(pages 0 (L.map lfOf) s)[k]? = some v->w.cell? ⟨g,s*30+12+k,none⟩=some v:=fun k v hv=>by
  have:=R (12+k) v (by unfold spRowM;rw [List.getElem?_append_right (by rw [six_len];omega),six_len,Nat.add_sub_cancel_left];exact hv)
  rwa [<- Nat.add_assoc] at this
 exact ⟨L1 _ _ a1.1,L1 _ _ a1.2,L2 _ _ a2.1,L2 _ _ a2.2.1,L2 _ _ a2.2.2⟩
open Go.RowKit
theorem ln_le {ts:List (Int×Int×Int×Int)}{last:Int}{ln:Nat->List Nat}(h:Lined ts last ln){m:Nat}(hm:ts.length=m) (h6:m<=6) (r:Nat):(ln r).length<=1000:=by
 have:=nodup_lt ts.length (ln r) (h.nodup r) (fun t ht=>h.lt ht)
 omega
theorem Tryz.infoN158:(Tryz.prog.info? 158).map (fun i=>(i.zero,i.size,i.bytes))=some (some (.agg #[.int .i64 0,.int .i64 0,.int .i64 0,.int .i64 0,.int .i64 0,.int .i64 0,.slice none 0 0,.int .i64 0,.int .i64 0,.slice none 0 0,.int .i64 0,.int .i64 0,.int .i64 0,.int .i64 0,.int .i64 0,.int .u64 0,.slice none 0 0]),17,184):=by kernel_rfl
theorem addThread_no (x:Nat) (ty:TypeId) (cs:Array Value) (cl:Int×(Nat->Int)) (ts:List (Int×Int×Int×Int)) (n:Nat) (Q L:List (Int×Int×Int×Int)) (ln:Nat->List Nat) (vt:Value) (rv:Nat->Value) (vs:Value) (s r:Int) (w:World)
  (h:MAt w x ty cs cl ts n Q L ln vt rv vs) (hb:¬ (0<=s/\s < n/\0<=r/\r < 4)) :
  Calls Tryz.prog 153 #[.pointer (some ⟨x,0,none⟩),.agg #[.int .i64 s,.int .i64 r]] w fun e w'=>e=.returned (.iface 160 (.agg #[.int .i64 1]))/\Below w.heap.size w w':=by
 have hc6:=(h.cell 6).trans h.c6
 have lx:=(Array.getElem?_eq_some_iff.1 h.blk).1
 obtain ⟨a,c,ev⟩:=h.sp.slice
 have hlen:(spRows n Q L).length=n:=by simp [spRows,spRowsM]
 rw [hlen] at ev
 subst ev
 clear h hlen
 by_cases h1:0<=s/\s < (n:Int)
 ·have d1:decide (0<=s/\s < (n:Int))=true:=by simpa using h1
  have d2:decide (0<=r/\r < 4)=false:=by simp;omega
  clear hb h1
  go_enter Tryz.func153,Tryz.ntmps153
  go_wp2_with fail
  go_quiet ((go_at_call 149;exact Calls.quiet_of_same (below_any _ _ _)))
  go_wp2_with (first | (go_at_call 149;refine (below_any _ _ _).mono ?_;rintro e w1 ⟨rfl,rfl⟩) | (go_at_call 151;refine (noConfig_any _).mono ?_;rintro e w1 ⟨rfl,rfl⟩))
  go_ret
  exact ⟨rfl,below_drewN ((Below.refl _ w).alloc (Nat.le_refl _) _) _⟩
 ·have d1:decide (0<=s/\s < (n:Int))=false:=by simpa using h1
  clear hb h1
  go_enter Tryz.func153,Tryz.ntmps153
  go_wp2_with fail
  go_quiet ((go_at_call 149;exact Calls.quiet_of_same (below_any _ _ _)))
  go_wp2_with (first | (go_at_call 149;refine (below_any _ _ _).mono ?_;rintro e w1 ⟨rfl,rfl⟩) | (go_at_call 151;refine (noConfig_any _).mono ?_;rintro e w1 ⟨rfl,rfl⟩))
  go_ret
  exact ⟨rfl,below_drewN ((Below.refl _ w).alloc (Nat.le_refl _) _) _⟩
theorem Fr.after {S T:Nat->Prop}{a b c:World}(h:Fr S a b) (k:Fr T b c) (ht:∀ i,i < a.heap.size->T i->S i):Fr S a c:=(h.join k).mono (fun i hi e=>e.elim id (ht i hi))
theorem MAt.addTh {w wX w4:World}{x:Nat}{ty:TypeId}{cs:Array Value}{cl:Int×(Nat->Int)}{ts:List (Int×Int×Int×Int)}{n:Nat}{Q L:List (Int×Int×Int×Int)}{ln:Nat->List Nat}{vt:Value}{rv:Nat->Value}{vs v4:Value}{u:Int×Int×Int×Int}
  (h:MAt w x ty cs cl ts n Q L ln vt rv vs) (hX:Fr (fun _=>False) w wX) (G:Grew 158 17 vt wX v4 (ts.map thRow ++ [thRow u]) w4) :
  MAt (w4.setCell ⟨x,1,none⟩ v4) x ty (cs.setIfInBounds 1 v4) cl (ts ++ [u]) n Q L ln v4 rv vs/\Fr (MOwn x vt rv vs) w (w4.setCell ⟨x,1,none⟩ v4)/\∀ k,MOwn x v4 rv vs k->MOwn x vt rv vs k\/w.heap.size<=k:=by
 have lx:=(Array.getElem?_eq_some_iff.1 h.blk).1
 have hX':=h.kept hX (fun _ _ h=>h)
 have F4:Fr (fun k=>vt.ownBlock=some k) w w4:=G.fr (hX.mono (fun _ _ h=>h.elim)) (fun k hk _=>hk)
 have F5:Fr (fun k=>k=x) w4 (w4.setCell ⟨x,1,none⟩ v4):=(Fr.refl (fun k=>k=x) w4).setCell (p:=⟨x,1,none⟩) (fun _=>rfl) _
 have hb4:w4.heap[x]? = some (.cells cs ty (0,0)):=(F4.block x lx h.n1).trans h.blk
 have nv:∀ k,v4.ownBlock=some k->w.heap.size<=k\/vt.ownBlock=some k:=fun k hk=>by
  rcases G.at_ k hk with e | e
  ·have:=hX.size;left;omega
  ·exact .inr e
 have nx:∀ k,v4.ownBlock=some k->k≠x:=fun k hk e=>by
  rcases nv k hk with h1 | h1
  ·omega
  ·exact h.n1 (e ▸ h1)
 have F:=F4.join F5
 refine ⟨⟨heap_setCell_same w4 x 1 cs ty v4 hb4,by simpa using h.size,?_,?_,?_,?_,?_,fun r hr=>(h.li r hr).kept F ?_,h.sp.kept F ?_,fun e=>nx x e rfl,h.n2,h.n3,?_,h.n5,?_,fun j hj=>by rw [Array.getElem?_setIfInBounds_ne (by omega)];exact h.fr j hj⟩,(F4.mono (fun k _ e=>.inr (.inl e))).trans (F5.mono (fun k _ e=>.inl e)),?_⟩
 ·rw [Array.getElem?_setIfInBounds_ne (by omega)];exact h.c0
 ·rw [Array.getElem?_setIfInBounds_self_of_lt (by have:=h.size;omega)]
 ·intro r hr;rw [Array.getElem?_setIfInBounds_ne (by omega)];exact h.row r hr
 ·rw [Array.getElem?_setIfInBounds_ne (by omega)];exact h.c6
 ·rw [List.map_append]
  exact G.sl.kept F5 (fun k hk e=>nx k hk e)
 ·rintro k hk (e | e)
  ·exact (h.n4 r hr k hk).1 e
  ·exact h.n2 r hr (e ▸ hk)
 ·rintro k hk (e | e)
  ·exact h.n6 k e hk
  ·exact h.n3 (e ▸ hk)
 ·intro r hr k hk
  refine ⟨fun e=>?_,(h.n4 r hr k hk).2⟩
  rcases nv k e with h1 | h1
  ·have:=(h.li r hr).lt hk;omega
  ·exact (h.n4 r hr k hk).1 h1
 ·intro k hk e
  rcases nv k hk with h1 | h1
  ·have:=h.sp.lt e;omega
  ·exact h.n6 k h1 e
 ·rintro k (hk | hk | hk | hk)
  ·exact .inl (.inl hk)
  ·rcases nv k hk with h1 | h1
   ·exact .inr h1
   ·exact .inl (.inr (.inl h1))
  ·exact .inl (.inr (.inr (.inl hk)))
  ·exact .inl (.inr (.inr (.inr hk)))
theorem modify_out (ts:List (Int×Int×Int×Int)) (f:(Int×Int×Int×Int)->(Int×Int×Int×Int)):ts.modify ts.length f=ts:=by
 apply List.ext_getElem?
 intro i
 rw [List.getElem?_modify]
 by_cases e:ts.length=i
 ·subst e;simp
 ·simp [e]
theorem addThread_yes (x:Nat) (ty:TypeId) (cs:Array Value) (cl:Int×(Nat->Int)) (ts:List (Int×Int×Int×Int)) (n:Nat) (Q L:List (Int×Int×Int×Int)) (ln:Nat->List Nat) (vt:Value) (rv:Nat->Value) (vs:Value) (s:Int) (r:Nat) (w:World)
  (h:MAt w x ty cs cl ts n Q L ln vt rv vs) (hl:Lined ts ts.length ln) (h0:0<=s) (h1:s < n) (hr4:r < 4) (h6:ts.length < 6) :
  Calls Tryz.prog 153 #[.pointer (some ⟨x,0,none⟩),.agg #[.int .i64 s,.int .i64 r]] w fun e w'=>e=.returned .nilIface/\∃ cs' vt' rv',MAt w' x ty cs' cl (ts ++ [(s,(r:Int),(ts.length:Int),3)]) n Q L (comeLast ln r ts.length) vt' rv' vs/\Fr (MOwn x vt rv vs) w w'/\∀ k,MOwn x vt' rv' vs k->MOwn x vt rv vs k\/w.heap.size<=k:=by
 obtain ⟨i0,hi0,hz0,hz1,hz2⟩:=info_parts Tryz.infoN158
 have hc6:=(h.cell 6).trans h.c6
 have hc1:=(h.cell 1).trans h.c1
 have lx:=(Array.getElem?_eq_some_iff.1 h.blk).1
 obtain ⟨a,c,ev⟩:=h.sp.slice
 have hlen:(spRows n Q L).length=n:=by simp [spRows,spRowsM]
 rw [hlen] at ev
 obtain ⟨a2,c2,ev2⟩:=h.th.slice
 rw [List.length_map] at ev2
 subst ev ev2
 obtain ⟨m,hm⟩:∃ m,ts.length=m:=⟨_,rfl⟩
 rw [hm] at hc1 h h6 hl ⊢
 have HM:=hid (And.intro h (And.intro hl hm))
 clear h hl hlen hm
 have d1:decide (0<=s/\s < (n:Int))=true:=by simp;omega
 have d2:decide (0<=(r:Int)/\(r:Int) < 4)=true:=by simp;omega
 have hr4':(r:Int) < 4:=by omega
 go_enter Tryz.func153,Tryz.ntmps153
 go_wp2_with fail
 go_quiet ((go_at_call 149;exact Calls.quiet_of_same (below_any _ _ _)))
 go_wp2_with (first | (go_at_call 149;refine (below_any _ _ _).mono ?_;rintro e w1 ⟨rfl,rfl⟩) | (go_at_call 151;refine (noConfig_any _).mono ?_;rintro e w1 ⟨rfl,rfl⟩))
 have hbl:Below w.heap.size w ((w.alloc (.cells #[.int .i64 s,.int .i64 r] 34)).drewN nq):=below_drewN ((Below.refl _ w).alloc (Nat.le_refl _) _) _
 have hbx:((w.alloc (.cells #[.int .i64 s,.int .i64 r] 34)).drewN nq).heap[w.heap.size]? = some (.cells #[.int .i64 s,.int .i64 r] 34 (0,0)):=heap_alloc_new w _
 generalize (w.alloc (.cells #[.int .i64 s,.int .i64 r] 34)).drewN nq=w1 at hbl hbx ⊢
 have M1:=HM.out.1.below hbl
 have cx1:=(M1.cell 1).trans M1.c1
 have cb0:w1.cell? ⟨w.heap.size,0,none⟩=some (.int .i64 s):=(cell_of_row w1 _ 0 _ _ _ hbx).trans rfl
 have cb1:w1.cell? ⟨w.heap.size,1,none⟩=some (.int .i64 r):=(cell_of_row w1 _ 1 _ _ _ hbx).trans rfl
 have HM1:=hid (And.intro M1 (And.intro hbl hbx))
 have l1:w.heap.size < w1.heap.size:=(Array.getElem?_eq_some_iff.1 hbx).1
 clear M1 hbl hbx
 go_cut [] (fun wc=>∃ cs' rv',Hid (MAt wc x ty cs' cl ts n Q L (comeLast ln r m) (.slice a2 m c2) rv' (.slice a n c)/\wc.heap[w.heap.size]? = some (.cells #[.int .i64 s,.int .i64 r] 34 (0,0))/\Fr (MOwn x (.slice a2 m c2) rv (.slice a n c)) w wc/\∀ k,MOwn x (.slice a2 m c2) rv' (.slice a n c) k->MOwn x (.slice a2 m c2) rv (.slice a n c) k\/w.heap.size+1<=k))
 case first=>
  go_region_with (go_at_call 131;refine (comeLast_any x (2+r) (rv r) (ln r) m cs ty w1.drew HM1.out.1.blk (HM1.out.1.row r hr4) (HM1.out.1.li r hr4).drew ?_ ?_ (HM1.out.1.n2 r hr4)).mono ?_;exact ln_le HM.out.2.1 HM.out.2.2 (Nat.le_of_lt h6) r;exact HM.out.2.1.nodup r;rintro e w2 ⟨rfl,v2,H2⟩;replace H2:=hid H2)
  all_goals
   go_wp2
   go_meet
   case rel=>
    obtain ⟨b2,s2,f2,o2⟩:=H2.out
    have f2':Fr (fun k=>k=x\/(rv r).ownBlock=some k) w1 w2:=⟨f2.os,f2.tape,f2.output,f2.size,f2.block⟩
    have R:=HM1.out.1.setRow hr4 b2 s2 f2' o2 0
    have em:=modify_out ts (fun u=>(u.1,u.2.1,(0:Int),u.2.2.2))
    rw [HM.out.2.2] at em
    rw [em] at R
    have fm:∀ k,(k=x\/(rv r).ownBlock=some k)->MOwn x (.slice a2 m c2) rv (.slice a n c) k:=fun k e=>by
     rcases e with e | e
     ·exact .inl e
     ·exact .inr (.inr (.inl ⟨r,hr4,e⟩))
    refine ⟨_,_,R.1,(f2'.block _ l1 (fun e=>?_)).trans HM1.out.2.2,(Fr.of_below HM1.out.2.1 _).trans (f2'.mono (fun k _ e=>fm k e)),fun k hk=>?_⟩
    ·have:=HM.out.1.lt (fm _ e);omega
    ·rcases R.2 k hk with h | h
     ·exact .inl h
     ·exact .inr (by omega)
 case rest=>
 obtain ⟨cs',rv',HC⟩:=hcut
 have lxc:=(Array.getElem?_eq_some_iff.1 HC.out.1.blk).1
 have dx1:=(HC.out.1.cell 1).trans HC.out.1.c1
 have fx1:=frozen_of_row wc x 1 _ _ HC.out.1.blk
 have db0:wc.cell? ⟨w.heap.size,0,none⟩=some (.int .i64 s):=(cell_of_row wc _ 0 _ _ _ HC.out.2.1).trans rfl
 have db1:wc.cell? ⟨w.heap.size,1,none⟩=some (.int .i64 r):=(cell_of_row wc _ 1 _ _ _ HC.out.2.1).trans rfl
 have lbc:w.heap.size < wc.heap.size:=(Array.getElem?_eq_some_iff.1 HC.out.2.1).1
 go_wp2_with fail
 go_region_law (refine step_append_sl _ rfl (.tmp 37) (.tmp 41) 100 rfl 158 i0 _ 17 184 Tryz.underlying100 hi0 hz0 hz1 hz2 rfl (by decide) (.slice a2 m c2) (ts.map thRow) (by simp [Act.eval]) ((HC.out.1.th.alloc _).drew) ⟨wc.heap.size,0,none⟩ 1 1 [[.int .i64 s,.int .i64 r,.int .i64 3,.int .i64 1,.int .i64 0,.int .i64 (-1),.slice none 0 0,.int .i64 (-1),.int .i64 0,.slice none 0 0,.int .i64 0,.int .i64 0,.int .i64 0,.int .i64 0,.int .i64 0,.int .u64 0,.slice none 0 0]] (by simp [Act.eval]) rfl (by decide) (by simp) (fun j u h=>cell_news wc #[.int .i64 s,.int .i64 r,.int .i64 3,.int .i64 1,.int .i64 0,.int .i64 (-1),.slice none 0 0,.int .i64 (-1),.int .i64 0,.slice none 0 0,.int .i64 0,.int .i64 0,.int .i64 0,.int .i64 0,.int .i64 0,.int .u64 0,.slice none 0 0] 158 j u (by simpa using h)) (fun u hu=>by simp at hu;rcases hu with rfl | rfl | rfl | rfl | rfl | rfl | rfl | rfl | rfl | rfl | rfl | rfl | rfl | rfl | rfl | rfl | rfl <;> rfl) (by rw [List.length_map,HM.out.2.2];unfold maxLen;omega) (by rw [List.length_map,HM.out.2.2];omega) ?_;intro a4 c4 w4 G4;have hb4:Hid (w4.heap[x]? = some (.cells cs' ty (0,0))):=(G4.old (by simp;omega) HC.out.1.n1).trans ((((Fr.refl (fun _=>False) wc).alloc _).drew).block x lxc id |>.trans HC.out.1.blk);have hc4:w4.cell? ⟨x,1,none⟩=some (.slice a2 m c2):=(cell_of_row w4 x 1 _ _ _ hb4.out).trans HC.out.1.c1;have hf4:w4.frozen? ⟨x,1,none⟩=false:=frozen_of_row _ _ _ _ _ hb4.out)
 all_goals
  go_wp2
  go_ret
  have A:=HC.out.1.addTh (u:=(s,(r:Int),(m:Int),3)) (((Fr.refl (fun _=>False) wc).alloc _).drew) G4
  rw [List.length_map] at A
  refine ⟨rfl,_,_,_,A.1,HC.out.2.2.1.after A.2.1 (fun k hk e=>?_),fun k hk=>?_⟩
  ·rcases HC.out.2.2.2 k e with h | h
   ·exact h
   ·omega
  ·rcases A.2.2 k hk with h | h
   ·rcases HC.out.2.2.2 k h with h | h
    ·exact .inl h
    ·exact .inr (by omega)
   ·exact .inr (by omega)
open Go.RowKit
theorem addPass_no (x:Nat) (ty:TypeId) (cs:Array Value) (cl:Int×(Nat->Int)) (ts:List (Int×Int×Int×Int)) (n:Nat) (Q L:List (Int×Int×Int×Int)) (ln:Nat->List Nat) (vt:Value) (rv:Nat->Value) (vs:Value) (s j t r:Int) (w:World)
  (h:MAt w x ty cs cl ts n Q L ln vt rv vs) (hb:¬ (0<=s/\s < n/\0<=j/\j < 6/\0<=t/\t < (ts.length:Int)/\1<=r/\r<=3)) :
  Calls Tryz.prog 155 #[.pointer (some ⟨x,0,none⟩),.agg #[.int .i64 s,.int .i64 j,.int .i64 t,.int .i64 r]] w fun e w'=>e=.returned (.iface 160 (.agg #[.int .i64 1]))/\Below w.heap.size w w':=by
 have hc6:=(h.cell 6).trans h.c6
 have hc1:=(h.cell 1).trans h.c1
 have lx:=(Array.getElem?_eq_some_iff.1 h.blk).1
 obtain ⟨a,c,ev⟩:=h.sp.slice
 have hlen:(spRows n Q L).length=n:=by simp [spRows,spRowsM]
 rw [hlen] at ev
 obtain ⟨a2,c2,ev2⟩:=h.th.slice
 rw [List.length_map] at ev2
 subst ev ev2
 generalize ts.length=m at *
 clear h hlen
 by_cases h1:0<=s/\s < (n:Int)
 ·have d1:decide (0<=s/\s < (n:Int))=true:=by simpa using h1
  by_cases h2:0<=j/\j < 6
  ·have d2:decide (0<=j/\j < 6)=true:=by simpa using h2
   by_cases h3:0<=t/\t < (m:Int)
   ·have d3:decide (0<=t/\t < (m:Int))=true:=by simpa using h3
    have d4:decide (1<=r/\r<=3)=false:=by simp;omega
    clear hb h1 h2 h3
    go_enter Tryz.func155,Tryz.ntmps155
    go_wp2_with fail
    go_quiet ((first | (go_at_call 149;exact Calls.quiet_of_same (below_any _ _ _)) | (go_at_call 132;exact Calls.quiet_of_same (between_dec _ _ _ _))))
    go_wp2_with (first | (go_at_call 149;refine (below_any _ _ _).mono ?_;rintro e w1 ⟨rfl,rfl⟩) | (go_at_call 132;refine (between_dec _ _ _ _).mono ?_;rintro e w1 ⟨rfl,rfl⟩) | (go_at_call 151;refine (noConfig_any _).mono ?_;rintro e w1 ⟨rfl,rfl⟩))
    go_ret
    exact ⟨rfl,below_drewN ((Below.refl _ w).alloc (Nat.le_refl _) _) _⟩
   ·have d3:decide (0<=t/\t < (m:Int))=false:=by simpa using h3
    clear hb h1 h2 h3
    go_enter Tryz.func155,Tryz.ntmps155
    go_wp2_with fail
    go_quiet ((first | (go_at_call 149;exact Calls.quiet_of_same (below_any _ _ _)) | (go_at_call 132;exact Calls.quiet_of_same (between_dec _ _ _ _))))
    go_wp2_with (first | (go_at_call 149;refine (below_any _ _ _).mono ?_;rintro e w1 ⟨rfl,rfl⟩) | (go_at_call 132;refine (between_dec _ _ _ _).mono ?_;rintro e w1 ⟨rfl,rfl⟩) | (go_at_call 151;refine (noConfig_any _).mono ?_;rintro e w1 ⟨rfl,rfl⟩))
    go_ret
    exact ⟨rfl,below_drewN ((Below.refl _ w).alloc (Nat.le_refl _) _) _⟩
  ·have d2:decide (0<=j/\j < 6)=false:=by simpa using h2
   clear hb h1 h2
   go_enter Tryz.func155,Tryz.ntmps155
   go_wp2_with fail
   go_quiet ((first | (go_at_call 149;exact Calls.quiet_of_same (below_any _ _ _)) | (go_at_call 132;exact Calls.quiet_of_same (between_dec _ _ _ _))))
   go_wp2_with (first | (go_at_call 149;refine (below_any _ _ _).mono ?_;rintro e w1 ⟨rfl,rfl⟩) | (go_at_call 132;refine (between_dec _ _ _ _).mono ?_;rintro e w1 ⟨rfl,rfl⟩) | (go_at_call 151;refine (noConfig_any _).mono ?_;rintro e w1 ⟨rfl,rfl⟩))
   go_ret
   exact ⟨rfl,below_drewN ((Below.refl _ w).alloc (Nat.le_refl _) _) _⟩
 ·have d1:decide (0<=s/\s < (n:Int))=false:=by simpa using h1
  clear hb h1
  go_enter Tryz.func155,Tryz.ntmps155
  go_wp2_with fail
  go_quiet ((first | (go_at_call 149;exact Calls.quiet_of_same (below_any _ _ _)) | (go_at_call 132;exact Calls.quiet_of_same (between_dec _ _ _ _))))
  go_wp2_with (first | (go_at_call 149;refine (below_any _ _ _).mono ?_;rintro e w1 ⟨rfl,rfl⟩) | (go_at_call 132;refine (between_dec _ _ _ _).mono ?_;rintro e w1 ⟨rfl,rfl⟩) | (go_at_call 151;refine (noConfig_any _).mono ?_;rintro e w1 ⟨rfl,rfl⟩))
  go_ret
  exact ⟨rfl,below_drewN ((Below.refl _ w).alloc (Nat.le_refl _) _) _⟩
theorem addPass_two (x:Nat) (ty:TypeId) (cs:Array Value) (cl:Int×(Nat->Int)) (ts:List (Int×Int×Int×Int)) (n:Nat) (Q L:List (Int×Int×Int×Int)) (ln:Nat->List Nat) (vt:Value) (rv:Nat->Value) (vs:Value) (s j:Nat) (t r:Int) (w:World)
  (h:MAt w x ty cs cl ts n Q L ln vt rv vs) (hs:s < n) (hj:j < 6) (ht0:0<=t) (ht1:t < (ts.length:Int)) (hr0:1<=r) (hr1:r<=3) (hn:pb (findQ Q s j)≠0) :
  Calls Tryz.prog 155 #[.pointer (some ⟨x,0,none⟩),.agg #[.int .i64 s,.int .i64 j,.int .i64 t,.int .i64 r]] w fun e w'=>e=.returned (.iface 160 (.agg #[.int .i64 1]))/\Below w.heap.size w w':=by
 have hc6:=(h.cell 6).trans h.c6
 have hc1:=(h.cell 1).trans h.c1
 have lx:=(Array.getElem?_eq_some_iff.1 h.blk).1
 obtain ⟨a,c,ev⟩:=h.sp.slice
 have hlen:(spRows n Q L).length=n:=by simp [spRows,spRowsM]
 rw [hlen] at ev
 obtain ⟨a2,c2,ev2⟩:=h.th.slice
 rw [List.length_map] at ev2
 subst ev ev2
 obtain ⟨g,ea,hx⟩:=h.sp.is_some (by omega)
 clear hx
 subst ea
 have K:=sp_cells h.sp hs hj
 have kp:=K.1
 have kq:=K.2.1
 have lg:g < w.heap.size:=h.sp.lt rfl
 have d1:decide (0<=(s:Int)/\(s:Int) < (n:Int))=true:=by simp;omega
 have d2:decide (0<=(j:Int)/\(j:Int) < 6)=true:=by simp;omega
 have d3:decide (0<=t/\t < (ts.length:Int))=true:=by simp;omega
 have d4:decide (1<=r/\r<=3)=true:=by simp;omega
 have sn:(s:Int) < (n:Int):=by omega
 have j6:(j:Int) < 6:=by omega
 generalize pb (findQ Q s j)=B at *
 generalize pa (findQ Q s j)=A at *
 generalize ts.length=m at *
 have hB:(B != 0)=true:=by simpa using hn
 clear h hlen K hn
 go_enter Tryz.func155,Tryz.ntmps155
 go_wp2_with fail
 go_quiet ((first | (go_at_call 149;exact Calls.quiet_of_same (below_any _ _ _)) | (go_at_call 132;exact Calls.quiet_of_same (between_dec _ _ _ _))))
 go_wp2_with (first | (go_at_call 149;refine (below_any _ _ _).mono ?_;rintro e w1 ⟨rfl,rfl⟩) | (go_at_call 132;refine (between_dec _ _ _ _).mono ?_;rintro e w1 ⟨rfl,rfl⟩) | (go_at_call 151;refine (noConfig_any _).mono ?_;rintro e w1 ⟨rfl,rfl⟩))
 go_quiet (fail)
 go_wp2_with (first | (go_at_call 149;refine (below_any _ _ _).mono ?_;rintro e w1 ⟨rfl,rfl⟩) | (go_at_call 132;refine (between_dec _ _ _ _).mono ?_;rintro e w1 ⟨rfl,rfl⟩) | (go_at_call 151;refine (noConfig_any _).mono ?_;rintro e w1 ⟨rfl,rfl⟩))
 go_ret
 exact ⟨rfl,below_drewN ((Below.refl _ w).alloc (Nat.le_refl _) _) _⟩
theorem addPass_yes (x:Nat) (ty:TypeId) (cs:Array Value) (cl:Int×(Nat->Int)) (ts:List (Int×Int×Int×Int)) (n:Nat) (Q L:List (Int×Int×Int×Int)) (ln:Nat->List Nat) (vt:Value) (rv:Nat->Value) (vs:Value) (s j:Nat) (t r:Int) (w:World)
  (h:MAt w x ty cs cl ts n Q L ln vt rv vs) (hs:s < n) (hj:j < 6) (ht0:0<=t) (ht1:t < (ts.length:Int)) (hr0:1<=r) (hr1:r<=3) (hn:findQ Q s j=none) :
  Calls Tryz.prog 155 #[.pointer (some ⟨x,0,none⟩),.agg #[.int .i64 s,.int .i64 j,.int .i64 t,.int .i64 r]] w fun e w'=>e=.returned .nilIface/\MAt w' x ty cs cl ts n (Q ++ [((s:Int),(j:Int),t,r)]) L ln vt rv vs/\Fr (MOwn x vt rv vs) w w':=by
 have hc6:=(h.cell 6).trans h.c6
 have hc1:=(h.cell 1).trans h.c1
 have lx:=(Array.getElem?_eq_some_iff.1 h.blk).1
 obtain ⟨a,c,ev⟩:=h.sp.slice
 have hlen:(spRows n Q L).length=n:=by simp [spRows,spRowsM]
 rw [hlen] at ev
 obtain ⟨a2,c2,ev2⟩:=h.th.slice
 rw [List.length_map] at ev2
 subst ev ev2
 obtain ⟨g,ea,hx⟩:=h.sp.is_some (by omega)
 clear hx
 subst ea
 have K:=sp_cells h.sp hs hj
 have kp:=K.1
 have kq:=K.2.1
 have lg:g < w.heap.size:=h.sp.lt rfl
 have d1:decide (0<=(s:Int)/\(s:Int) < (n:Int))=true:=by simp;omega
 have d2:decide (0<=(j:Int)/\(j:Int) < 6)=true:=by simp;omega
 have d3:decide (0<=t/\t < (ts.length:Int))=true:=by simp;omega
 have d4:decide (1<=r/\r<=3)=true:=by simp;omega
 have sn:(s:Int) < (n:Int):=by omega
 have j6:(j:Int) < 6:=by omega
 rw [hn] at kp kq
 simp only [pa,pb] at kp kq
 have fp:=h.sp.fro (s*30+j*2)
 have fq:=h.sp.fro (s*30+j*2+1)
 have RW:=rows_passes n Q L s j hs hj t r hn
 generalize ts.length=m at *
 have HM:=hid (And.intro h RW)
 clear h hlen K hn RW
 go_enter Tryz.func155,Tryz.ntmps155
 go_wp2_with fail
 go_quiet ((first | (go_at_call 149;exact Calls.quiet_of_same (below_any _ _ _)) | (go_at_call 132;exact Calls.quiet_of_same (between_dec _ _ _ _))))
 go_wp2_with (first | (go_at_call 149;refine (below_any _ _ _).mono ?_;rintro e w1 ⟨rfl,rfl⟩) | (go_at_call 132;refine (between_dec _ _ _ _).mono ?_;rintro e w1 ⟨rfl,rfl⟩) | (go_at_call 151;refine (noConfig_any _).mono ?_;rintro e w1 ⟨rfl,rfl⟩))
 go_quiet (fail)
 go_wp2_with (first | (go_at_call 149;refine (below_any _ _ _).mono ?_;rintro e w1 ⟨rfl,rfl⟩) | (go_at_call 132;refine (between_dec _ _ _ _).mono ?_;rintro e w1 ⟨rfl,rfl⟩) | (go_at_call 151;refine (noConfig_any _).mono ?_;rintro e w1 ⟨rfl,rfl⟩))
 go_ret
 have S:=fun q=>(HM.out.1.below (below_drewN ((Below.refl _ w).alloc (Nat.le_refl _) (.cells #[.int .i64 s,.int .i64 j,.int .i64 t,.int .i64 r] 55)) q)).setSp hs [.int .i64 t,.int .i64 r] (by simp;omega) HM.out.2
 refine ⟨rfl,(S _).1,(Fr.of_below (below_drewN ((Below.refl _ w).alloc (Nat.le_refl _) _) _) _).trans ((S _).2.mono (fun k _ e=>.inr (.inr (.inr (by rw [e];rfl)))))⟩
theorem addLeaf_no (x:Nat) (ty:TypeId) (cs:Array Value) (cl:Int×(Nat->Int)) (ts:List (Int×Int×Int×Int)) (n:Nat) (Q L:List (Int×Int×Int×Int)) (ln:Nat->List Nat) (vt:Value) (rv:Nat->Value) (vs:Value) (s j t r:Int) (w:World)
  (h:MAt w x ty cs cl ts n Q L ln vt rv vs) (hb:¬ (0<=s/\s < n/\0<=j/\j < 6/\0<=t/\t < 8/\1<=r/\r<=3)) :
  Calls Tryz.prog 157 #[.pointer (some ⟨x,0,none⟩),.agg #[.int .i64 s,.int .i64 j,.int .i64 t,.int .i64 r]] w fun e w'=>e=.returned (.iface 160 (.agg #[.int .i64 1]))/\Below w.heap.size w w':=by
 have hc6:=(h.cell 6).trans h.c6
 have hc1:=(h.cell 1).trans h.c1
 have lx:=(Array.getElem?_eq_some_iff.1 h.blk).1
 obtain ⟨a,c,ev⟩:=h.sp.slice
 have hlen:(spRows n Q L).length=n:=by simp [spRows,spRowsM]
 rw [hlen] at ev
 obtain ⟨a2,c2,ev2⟩:=h.th.slice
 rw [List.length_map] at ev2
 subst ev ev2
 skip
 clear h hlen
 by_cases h1:0<=s/\s < (n:Int)
 ·have d1:decide (0<=s/\s < (n:Int))=true:=by simpa using h1
  by_cases h2:0<=j/\j < 6
  ·have d2:decide (0<=j/\j < 6)=true:=by simpa using h2
   by_cases h3:0<=t/\t < 8
   ·have d3:decide (0<=t/\t < 8)=true:=by simpa using h3
    have d4:decide (1<=r/\r<=3)=false:=by simp;omega
    clear hb h1 h2 h3
    go_enter Tryz.func157,Tryz.ntmps157
    go_wp2_with fail
    go_quiet ((first | (go_at_call 149;exact Calls.quiet_of_same (below_any _ _ _)) | (go_at_call 132;exact Calls.quiet_of_same (between_dec _ _ _ _))))
    go_wp2_with (first | (go_at_call 149;refine (below_any _ _ _).mono ?_;rintro e w1 ⟨rfl,rfl⟩) | (go_at_call 132;refine (between_dec _ _ _ _).mono ?_;rintro e w1 ⟨rfl,rfl⟩) | (go_at_call 151;refine (noConfig_any _).mono ?_;rintro e w1 ⟨rfl,rfl⟩))
    go_ret
    exact ⟨rfl,below_drewN ((Below.refl _ w).alloc (Nat.le_refl _) _) _⟩
   ·have d3:decide (0<=t/\t < 8)=false:=by simpa using h3
    clear hb h1 h2 h3
    go_enter Tryz.func157,Tryz.ntmps157
    go_wp2_with fail
    go_quiet ((first | (go_at_call 149;exact Calls.quiet_of_same (below_any _ _ _)) | (go_at_call 132;exact Calls.quiet_of_same (between_dec _ _ _ _))))
    go_wp2_with (first | (go_at_call 149;refine (below_any _ _ _).mono ?_;rintro e w1 ⟨rfl,rfl⟩) | (go_at_call 132;refine (between_dec _ _ _ _).mono ?_;rintro e w1 ⟨rfl,rfl⟩) | (go_at_call 151;refine (noConfig_any _).mono ?_;rintro e w1 ⟨rfl,rfl⟩))
    go_ret
    exact ⟨rfl,below_drewN ((Below.refl _ w).alloc (Nat.le_refl _) _) _⟩
  ·have d2:decide (0<=j/\j < 6)=false:=by simpa using h2
   clear hb h1 h2
   go_enter Tryz.func157,Tryz.ntmps157
   go_wp2_with fail
   go_quiet ((first | (go_at_call 149;exact Calls.quiet_of_same (below_any _ _ _)) | (go_at_call 132;exact Calls.quiet_of_same (between_dec _ _ _ _))))
   go_wp2_with (first | (go_at_call 149;refine (below_any _ _ _).mono ?_;rintro e w1 ⟨rfl,rfl⟩) | (go_at_call 132;refine (between_dec _ _ _ _).mono ?_;rintro e w1 ⟨rfl,rfl⟩) | (go_at_call 151;refine (noConfig_any _).mono ?_;rintro e w1 ⟨rfl,rfl⟩))
   go_ret
   exact ⟨rfl,below_drewN ((Below.refl _ w).alloc (Nat.le_refl _) _) _⟩
 ·have d1:decide (0<=s/\s < (n:Int))=false:=by simpa using h1
  clear hb h1
  go_enter Tryz.func157,Tryz.ntmps157
  go_wp2_with fail
  go_quiet ((first | (go_at_call 149;exact Calls.quiet_of_same (below_any _ _ _)) | (go_at_call 132;exact Calls.quiet_of_same (between_dec _ _ _ _))))
  go_wp2_with (first | (go_at_call 149;refine (below_any _ _ _).mono ?_;rintro e w1 ⟨rfl,rfl⟩) | (go_at_call 132;refine (between_dec _ _ _ _).mono ?_;rintro e w1 ⟨rfl,rfl⟩) | (go_at_call 151;refine (noConfig_any _).mono ?_;rintro e w1 ⟨rfl,rfl⟩))
  go_ret
  exact ⟨rfl,below_drewN ((Below.refl _ w).alloc (Nat.le_refl _) _) _⟩
theorem addLeaf_two (x:Nat) (ty:TypeId) (cs:Array Value) (cl:Int×(Nat->Int)) (ts:List (Int×Int×Int×Int)) (n:Nat) (Q L:List (Int×Int×Int×Int)) (ln:Nat->List Nat) (vt:Value) (rv:Nat->Value) (vs:Value) (s j:Nat) (t r:Int) (w:World)
  (h:MAt w x ty cs cl ts n Q L ln vt rv vs) (hs:s < n) (hj:j < 6) (ht0:0<=t) (ht1:t < 8) (hr0:1<=r) (hr1:r<=3) (hn:pb (findQ L s j)≠0) :
  Calls Tryz.prog 157 #[.pointer (some ⟨x,0,none⟩),.agg #[.int .i64 s,.int .i64 j,.int .i64 t,.int .i64 r]] w fun e w'=>e=.returned (.iface 160 (.agg #[.int .i64 1]))/\Below w.heap.size w w':=by
 have hc6:=(h.cell 6).trans h.c6
 have hc1:=(h.cell 1).trans h.c1
 have lx:=(Array.getElem?_eq_some_iff.1 h.blk).1
 obtain ⟨a,c,ev⟩:=h.sp.slice
 have hlen:(spRows n Q L).length=n:=by simp [spRows,spRowsM]
 rw [hlen] at ev
 obtain ⟨a2,c2,ev2⟩:=h.th.slice
 rw [List.length_map] at ev2
 subst ev ev2
 obtain ⟨g,ea,hx⟩:=h.sp.is_some (by omega)
 clear hx
 subst ea
 have K:=sp_cells h.sp hs hj
 have kp:=K.2.2.1
 have kq:=K.2.2.2.1
 have ku:=K.2.2.2.2
 have lg:g < w.heap.size:=h.sp.lt rfl
 have d1:decide (0<=(s:Int)/\(s:Int) < (n:Int))=true:=by simp;omega
 have d2:decide (0<=(j:Int)/\(j:Int) < 6)=true:=by simp;omega
 have d3:decide (0<=t/\t < 8)=true:=by simp;omega
 have d4:decide (1<=r/\r<=3)=true:=by simp;omega
 have sn:(s:Int) < (n:Int):=by omega
 have j6:(j:Int) < 6:=by omega
 generalize pb (findQ L s j)=B at *
 generalize pa (findQ L s j)=A at *
 skip
 have hB:(B != 0)=true:=by simpa using hn
 clear h hlen K hn
 go_enter Tryz.func157,Tryz.ntmps157
 go_wp2_with fail
 go_quiet ((first | (go_at_call 149;exact Calls.quiet_of_same (below_any _ _ _)) | (go_at_call 132;exact Calls.quiet_of_same (between_dec _ _ _ _))))
 go_wp2_with (first | (go_at_call 149;refine (below_any _ _ _).mono ?_;rintro e w1 ⟨rfl,rfl⟩) | (go_at_call 132;refine (between_dec _ _ _ _).mono ?_;rintro e w1 ⟨rfl,rfl⟩) | (go_at_call 151;refine (noConfig_any _).mono ?_;rintro e w1 ⟨rfl,rfl⟩))
 go_quiet (fail)
 go_wp2_with (first | (go_at_call 149;refine (below_any _ _ _).mono ?_;rintro e w1 ⟨rfl,rfl⟩) | (go_at_call 132;refine (between_dec _ _ _ _).mono ?_;rintro e w1 ⟨rfl,rfl⟩) | (go_at_call 151;refine (noConfig_any _).mono ?_;rintro e w1 ⟨rfl,rfl⟩))
 go_ret
 exact ⟨rfl,below_drewN ((Below.refl _ w).alloc (Nat.le_refl _) _) _⟩
theorem addLeaf_yes (x:Nat) (ty:TypeId) (cs:Array Value) (cl:Int×(Nat->Int)) (ts:List (Int×Int×Int×Int)) (n:Nat) (Q L:List (Int×Int×Int×Int)) (ln:Nat->List Nat) (vt:Value) (rv:Nat->Value) (vs:Value) (s j:Nat) (t r:Int) (w:World)
  (h:MAt w x ty cs cl ts n Q L ln vt rv vs) (hs:s < n) (hj:j < 6) (ht0:0<=t) (ht1:t < 8) (hr0:1<=r) (hr1:r<=3) (hn:findQ L s j=none) :
  Calls Tryz.prog 157 #[.pointer (some ⟨x,0,none⟩),.agg #[.int .i64 s,.int .i64 j,.int .i64 t,.int .i64 r]] w fun e w'=>e=.returned .nilIface/\MAt w' x ty cs cl ts n Q (L ++ [((s:Int),(j:Int),t,r)]) ln vt rv vs/\Fr (MOwn x vt rv vs) w w':=by
 have hc6:=(h.cell 6).trans h.c6
 have hc1:=(h.cell 1).trans h.c1
 have lx:=(Array.getElem?_eq_some_iff.1 h.blk).1
 obtain ⟨a,c,ev⟩:=h.sp.slice
 have hlen:(spRows n Q L).length=n:=by simp [spRows,spRowsM]
 rw [hlen] at ev
 obtain ⟨a2,c2,ev2⟩:=h.th.slice
 rw [List.length_map] at ev2
 subst ev ev2
 obtain ⟨g,ea,hx⟩:=h.sp.is_some (by omega)
 clear hx
 subst ea
 have K:=sp_cells h.sp hs hj
 have kp:=K.2.2.1
 have kq:=K.2.2.2.1
 have ku:=K.2.2.2.2
 have lg:g < w.heap.size:=h.sp.lt rfl
 have d1:decide (0<=(s:Int)/\(s:Int) < (n:Int))=true:=by simp;omega
 have d2:decide (0<=(j:Int)/\(j:Int) < 6)=true:=by simp;omega
 have d3:decide (0<=t/\t < 8)=true:=by simp;omega
 have d4:decide (1<=r/\r<=3)=true:=by simp;omega
 have sn:(s:Int) < (n:Int):=by omega
 have j6:(j:Int) < 6:=by omega
 rw [hn] at kp kq
 simp only [pa,pb] at kp kq
 have fp:=h.sp.fro (s*30+12+j*3)
 have fq:=h.sp.fro (s*30+12+j*3+1)
 have fu:=h.sp.fro (s*30+12+j*3+2)
 have RW:=rows_leaves n Q L s j hs hj t r hn
 skip
 have HM:=hid (And.intro h RW)
 clear h hlen K hn RW
 go_enter Tryz.func157,Tryz.ntmps157
 go_wp2_with fail
 go_quiet ((first | (go_at_call 149;exact Calls.quiet_of_same (below_any _ _ _)) | (go_at_call 132;exact Calls.quiet_of_same (between_dec _ _ _ _))))
 go_wp2_with (first | (go_at_call 149;refine (below_any _ _ _).mono ?_;rintro e w1 ⟨rfl,rfl⟩) | (go_at_call 132;refine (between_dec _ _ _ _).mono ?_;rintro e w1 ⟨rfl,rfl⟩) | (go_at_call 151;refine (noConfig_any _).mono ?_;rintro e w1 ⟨rfl,rfl⟩))
 go_quiet (fail)
 go_wp2_with (first | (go_at_call 149;refine (below_any _ _ _).mono ?_;rintro e w1 ⟨rfl,rfl⟩) | (go_at_call 132;refine (between_dec _ _ _ _).mono ?_;rintro e w1 ⟨rfl,rfl⟩) | (go_at_call 151;refine (noConfig_any _).mono ?_;rintro e w1 ⟨rfl,rfl⟩))
 go_ret
 have S:=fun q=>(HM.out.1.below (below_drewN ((Below.refl _ w).alloc (Nat.le_refl _) (.cells #[.int .i64 s,.int .i64 j,.int .i64 t,.int .i64 r] 67)) q)).setSp hs [.int .i64 t,.int .i64 r,.pointer none] (by simp;omega) HM.out.2
 simp only [<- Nat.add_assoc] at S
 refine ⟨rfl,(S _).1,(Fr.of_below (below_drewN ((Below.refl _ w).alloc (Nat.le_refl _) _) _) _).trans ((S _).2.mono (fun k _ e=>.inr (.inr (.inr (by rw [e];rfl)))))⟩
open Go.RowKit
theorem run_append_empty {P:Program}(w:World) (t ty e:TypeId) (i:TypeInfo) (ht:P.underlying t=some (.slice e)) (hi:P.info? e=some i) (g:Nat) (a:Option Addr) (c:Nat) :
  (Builtin.append_ #[t,t] ty #[.slice (some ⟨g,0,none⟩) 0 0,.slice a 0 c]).run P w=.ok (.slice (some ⟨g,0,none⟩) 0 0) w:=by
 cases a <;> simp [Builtin.append_,run_underlying ht,sizeOf,typeInfo,hi,Builtin.lenOf,Builtin.firstCells,loadCells,loadCellsFrom,storeCells]
theorem wpList_append_empty {P:Program}(w:World){ops:Array Oper}{rest:List Oper}{o:Oper}{ac:Act}{Q:Exit->Act->World->Prop}(hgd:o.guard=none) (s x:Operand) (t:TypeId)
  (ho:o.op=.call { callee:=.builtin .append,args:=#[s,x],argTypes:=#[t,t] })
  (e:TypeId) (i:TypeInfo) (ht:P.underlying t=some (.slice e)) (hi:P.info? e=some i) (g:Nat) (hs:ac.eval s=.slice (some ⟨g,0,none⟩) 0 0)
  (a:Option Addr) (c:Nat) (hx:ac.eval x=.slice a 0 c)
  (h:wpList P ops Q rest (ac.put o.dst (.slice (some ⟨g,0,none⟩) 0 0)) w):wpList P ops Q (o :: rest) ac w:=by
 have hr:=run_append_empty (P:=P) w t o.type e i ht hi g a c
 refine wpList_plain hgd fun _ hK=>?_
 unfold Oper.wp execOp
 simp only [ho,resolve,invoke,builtin,Sem.run_bind,Sem.run_pure,Result.andThen_ok,List.map_toArray,List.map_cons,List.map_nil,hs,hx,hr]
 exact hK _ _ h
theorem sl_new0 (w:World):Sl (w.alloc (.cells #[] 2)) 2 1 (.slice (some ⟨w.heap.size,0,none⟩) 0 0) []:=
 ⟨⟨by simp,.inr ⟨w.heap.size,0,#[],rfl,Nat.zero_le _,heap_alloc_new w _,Nat.le_refl _,by simp,by simp,by simp⟩⟩,by simp⟩
theorem clone_any (a:Option Addr) (n c:Nat) (l:List Int) (w:World) (h:Inl w 1 (.slice a n c) (l.map lnI)) (hl:l.length<=1000) :
  Calls Tryz.prog 120 #[.slice a n c] w fun e w'=>∃ a' n' c',e=.returned (.slice a' n' c')/\Sl w' 2 1 (.slice a' n' c') (l.map lnI)/\Below w.heap.size w w'/\∀ b,Value.ownBlock (.slice a' n' c')=some b->w.heap.size<=b:=by
 have he:∀ w,(binOp .eql 39 (.slice a n c) (.slice none 0 0)).run Tryz.prog w=.ok (.bool a.isNone) w:=fun w=>Go.Lib.run_eql_slice_nil w 39 2 a n c 0 0 Tryz.underlying39
 obtain ⟨i0,hi0,hz0,hz1,hz2⟩:=info_parts Tryz.infoN2
 cases a with
 | none=>
  have e0:l=[]:=by
   obtain ⟨a0,c0,ev,_,hr⟩:=h.form
   simp only [Value.slice.injEq] at ev
   rcases hr with hr | ⟨b,off,hr,_⟩
   ·simpa using hr
   ·rw [hr] at ev;simp at ev
  subst e0
  clear h
  go_enter Tryz.func120,Tryz.ntmps120
  go_wp2
  go_ret
  exact ⟨_,_,_,rfl,Sl.nil _ _ _,Below.refl _ _,fun b hb=>by simp [Value.ownBlock] at hb⟩
 | some p=>
  obtain ⟨a0,c0,ev,hm,hr⟩:=h.form
  simp only [Value.slice.injEq,List.length_map] at ev
  obtain ⟨ea,en,rfl⟩:=ev
  cases l with
  | nil=>
   have e0:n=0:=en
   subst e0
   clear h hr en hm hl ea
   go_enter Tryz.func120,Tryz.ntmps120
   go_wp2_with (at_builtin;go_must (refine wpList_append_empty _ rfl _ _ 39 rfl 2 i0 Tryz.underlying39 hi0 w.heap.size rfl (some p) c rfl ?_))
   go_ret
   exact ⟨_,_,_,rfl,sl_new0 w,(Below.refl _ w).alloc (Nat.le_refl _) _,fun b hb=>by simp [Value.ownBlock] at hb;omega⟩
  | cons x xs=>
   rcases hr with hr | ⟨b,off,e2,hr⟩
   ·simp at hr
   ·rw [e2] at ea
    cases ea
    have HH:=hid (And.intro (And.intro h en) hr)
    clear h hr e2 en
    go_enter Tryz.func120,Tryz.ntmps120
    go_wp2_with (at_builtin;go_must (refine wpList_append_sl _ rfl _ _ 39 rfl 2 i0 _ 1 8 Tryz.underlying39 hi0 hz0 hz1 hz2 rfl (by decide) (.slice (some ⟨w.heap.size,0,none⟩) 0 0) [] rfl (sl_new0 w) ⟨b,off,none⟩ n c ((x :: xs).map lnI) rfl (by rw [List.length_map];exact HH.out.1.2.symm) (by have:=HH.out.1.2;simp at this;omega) HH.out.1.1.len (fun j u hu=>by rw [Addr.add_mid];exact World.rangeAt_alloc HH.out.2 _ j u hu) (fun u hu=>by obtain ⟨y,hy,huy⟩:=List.mem_flatten.1 hu;exact HH.out.1.1.one y hy u huy) (by have:=HH.out.1.2;simp only [List.length_nil];unfold maxLen;omega) (by have:=HH.out.1.2;simp only [List.length_nil];omega) ?_);intro a4 c4 w4 G4;simp only [List.length_nil,Nat.zero_add,List.nil_append] at G4)
    go_ret
    refine ⟨_,_,_,rfl,G4.sl,(G4.fr (S:=fun k=>w.heap.size<=k) ((Fr.refl _ w).alloc _) (fun k hk _=>by simp [Value.ownBlock] at hk;omega)).to_below (Nat.le_refl _) (fun _ h=>h),fun k hk=>?_⟩
    rcases G4.at_ k hk with h | h
    ·simp at h;omega
    ·simp [Value.ownBlock] at h;omega
open Go.RowKit
theorem pickT_no (a:Option Addr) (m c:Nat) (t:Int) (w:World) (h:¬ (0<=t/\t < m)) :
  Calls Tryz.prog 119 #[.slice a m c,.int .i64 t] w fun e w'=>e=.returned (.tuple #[.pointer none,E3])/\w'=w:=by
 have d:decide (0<=t/\t < (m:Int))=false:=by simpa using h
 go_enter Tryz.func119,Tryz.ntmps119
 go_wp2_with (go_at_call 149;refine (below_any _ _ _).mono ?_;rintro e w' ⟨rfl,rfl⟩;rw [d])
 go_ret2
 exact ⟨rfl,rfl⟩
theorem pickT_yes (g m c t:Nat) (w:World) (h:t < m) :
  Calls Tryz.prog 119 #[.slice (some ⟨g,0,none⟩) m c,.int .i64 t] w fun e w'=>e=.returned (.tuple #[.pointer (some ⟨g,t*17,none⟩),.nilIface])/\w'=w:=by
 have d:decide (0<=(t:Int)/\(t:Int) < (m:Int))=true:=by simp;omega
 have tm:(t:Int) < (m:Int):=by omega
 go_enter Tryz.func119,Tryz.ntmps119
 go_wp2_with (go_at_call 149;refine (below_any _ _ _).mono ?_;rintro e w' ⟨rfl,rfl⟩;rw [d])
 go_ret2
 exact ⟨rfl,rfl⟩
theorem pickS_no (a:Option Addr) (m c:Nat) (t:Int) (w:World) (h:¬ (0<=t/\t < m)) :
  Calls Tryz.prog 140 #[.slice a m c,.int .i64 t] w fun e w'=>e=.returned (.tuple #[.pointer none,E3])/\w'=w:=by
 have d:decide (0<=t/\t < (m:Int))=false:=by simpa using h
 go_enter Tryz.func140,Tryz.ntmps140
 go_wp2_with (go_at_call 149;refine (below_any _ _ _).mono ?_;rintro e w' ⟨rfl,rfl⟩;rw [d])
 go_ret2
 exact ⟨rfl,rfl⟩
theorem pickS_yes (g m c t:Nat) (w:World) (h:t < m) :
  Calls Tryz.prog 140 #[.slice (some ⟨g,0,none⟩) m c,.int .i64 t] w fun e w'=>e=.returned (.tuple #[.pointer (some ⟨g,t*30,none⟩),.nilIface])/\w'=w:=by
 have d:decide (0<=(t:Int)/\(t:Int) < (m:Int))=true:=by simp;omega
 have tm:(t:Int) < (m:Int):=by omega
 go_enter Tryz.func140,Tryz.ntmps140
 go_wp2_with (go_at_call 149;refine (below_any _ _ _).mono ?_;rintro e w' ⟨rfl,rfl⟩;rw [d])
 go_ret2
 exact ⟨rfl,rfl⟩
abbrev told0:Array Value:=#[.int .i64 0,.int .i64 0,.int .i64 0,.slice none 0 0,.int .i64 0]
section
variable (B:Bk) (S:Nat->Prop) (K:RM) (n:Nat) (w:World)
theorem mLook_no (t:Int) (h:KR w B S K) (ok:K.Ok n) (ht:¬ (0<=t/\t < K.threads.length)) :
  Calls Tryz.prog 75 #[.pointer (some ⟨B.x,0,none⟩),.int .i64 t] w fun e w'=>∃ s,e=.returned (.tuple #[.agg told0,.iface 166 (.agg #[.string s,E3])])/\Below w.heap.size w w':=by
 obtain ⟨M,⟨cs,rv,sl,hm,hS⟩,R⟩:=h
 have hc1:=(hm.cell 1).trans hm.c1
 have lx:=hm.lx
 have h6:=R.six ok.ft
 rw [<- R.len] at ht
 have hne:=e3_ne
 generalize M.threads.length=m at *
 have HT:=hid ht
 clear hm hS ht R ok
 go_enter Tryz.func75,Tryz.ntmps75
 go_wp2_with (go_at_call 119;refine (pickT_no _ m B.c t _ HT.out).mono ?_;rintro e w1 ⟨rfl,rfl⟩)
 exact bodyPost_ret (results_row_tmp Tryz.results75 _ _ w.heap.size 50 _ (0,0) _ _ rfl (heap_alloc_new w _) Tryz.underlying50 rfl (by kernel_rfl) rfl) rfl ⟨_,rfl,(Below.refl _ w).alloc (Nat.le_refl _) _⟩
theorem told_range {M:PM}{cs:Array Value}{rv:Nat->Value}{sl:List (Sv×Sv×Value)}(hm:PmAt w B M cs rv sl){t:Nat}{p:PT}{s:Sv×Sv×Value}(hp:M.threads[t]? = some p) (hs:sl[t]? = some s):w.rangeAt B.g (t*17+3) [.int .i64 p.st,.int .i64 p.code,.int .i64 p.who,.slice s.1.a s.1.n s.1.c,.int .i64 p.got]:=fun j v hv=>by
 have hj:j < 5:=(List.getElem?_eq_some_iff.1 hv).1
 rw [Nat.add_assoc,hm.tcell hp hs (3+j) (by omega),Nat.add_comm 3 j]
 have h5:j=0\/j=1\/j=2\/j=3\/j=4:=by omega
 rcases h5 with rfl | rfl | rfl | rfl | rfl <;> simpa [prow] using hv
theorem mLook_yes (t:Nat) (u:Th) (h:KR w B S K) (ok:K.Ok n) (hu:K.threads[t]? = some u) :
  Calls Tryz.prog 75 #[.pointer (some ⟨B.x,0,none⟩),.int .i64 t] w fun e w'=>∃ a m c,e=.returned (.tuple #[.agg #[.int .i64 u.st,.int .i64 u.code,.int .i64 u.who,.slice a m c,.int .i64 u.got],.nilIface])/\Sl w' 2 1 (.slice a m c) (u.ws.map lnI)/\Below w.heap.size w w'/\∀ b,Value.ownBlock (.slice a m c)=some b->w.heap.size<=b:=by
 obtain ⟨M,⟨cs,rv,sl,hm,hS⟩,R⟩:=h
 obtain ⟨p,hp,RT⟩:=R.get hu
 obtain ⟨s,hs⟩:=hm.sl_get hp
 have hc1:=(hm.cell 1).trans hm.c1
 have lx:=hm.lx
 have h6:=R.six ok.ft
 have ht:=(List.getElem?_eq_some_iff.1 hp).1
 have R0:=told_range B w hm hp hs
 have I0:=(hm.wd t p s hp hs).1.inl
 have l0:p.ws.length<=1000:=by rw [RT.ws];have:=(ok.ft.th t u hu).ws;omega
 rw [RT.ws] at I0 l0
 rw [RT.st,RT.code,RT.who,RT.got] at R0
 obtain ⟨⟨sa,sn,sc⟩,s2⟩:=s
 simp only at R0
 have R1:=hid (World.rangeAt_alloc R0 (.cells told0 50))
 have CL:Hid (∀ w1:World,Fr (fun _=>False) w w1->Calls Tryz.prog 120 #[.slice sa sn sc] w1 fun e w'=>∃ a' n' c',e=.returned (.slice a' n' c')/\Sl w' 2 1 (.slice a' n' c') (u.ws.map lnI)/\Below w1.heap.size w1 w'/\∀ b,Value.ownBlock (.slice a' n' c')=some b->w1.heap.size<=b):=fun w1 F=>clone_any sa sn sc u.ws w1 (I0.kept (by omega) F (fun _ _ h=>h)) l0
 generalize M.threads.length=m at *
 clear hm hS R0 hu RT hp hs I0 l0 R ok
 go_enter Tryz.func75,Tryz.ntmps75
 go_wp2_with (first
  | (go_at_call 119;refine (pickT_yes B.g m B.c t _ ht).mono ?_;rintro e w1 ⟨rfl,rfl⟩)
  | (go_at_call 120;refine (CL.out _ (((Fr.refl _ w).alloc _).alloc _)).mono ?_;rintro e w2 ⟨a2,n2,c2,rfl,H2⟩;have b8:w2.heap[w.heap.size+1]? = some (.cells #[.int .i64 u.st,.int .i64 u.code,.int .i64 u.who,.slice sa sn sc,.int .i64 u.got] 50 (0,0)):=(H2.2.1.block _ (by simp)).trans (by simpa using heap_alloc_new (w.alloc (.cells told0 50)) (.cells #[.int .i64 u.st,.int .i64 u.code,.int .i64 u.who,.slice sa sn sc,.int .i64 u.got] 50));have b4:w2.heap[w.heap.size]? = some (.cells told0 50 (0,0)):=(H2.2.1.block _ (by simp only [size_alloc];omega)).trans (heap_alloc2_old w _ _);have HB:=hid (And.intro b8 (And.intro b4 H2));obtain ⟨⟨d0,d1,d2,d3,d4⟩,fz8⟩:=cells5 b8;obtain ⟨⟨x0,x1,x2,x3,x4⟩,fz4⟩:=cells5 b4;clear b8 b4 H2)
  | (with_reducible (show wpList _ _ _ (⟨some 27,.load 50 _,_,_,_,none⟩ :: _) _ _);go_must (refine wpList_load_mid rfl 50 _ rfl B.g (t*17+3) rfl _ _ R1.out Tryz.underlying50 rfl (by kernel_rfl) ?_)))
 obtain ⟨b8,b4,H2⟩:=HB.out
 have b4':(w2.setCell ⟨w.heap.size+1,3,none⟩ (.slice a2 n2 c2)).heap[w.heap.size]? = some (.cells told0 50 (0,0)):=by
  rw [heap_setCell_other _ _ _ _ (by simp)];exact b4
 have z2:=H2.2.1.size
 simp only [size_alloc] at z2
 have F:Fr (fun k=>k=w.heap.size\/k=w.heap.size+1) w2 ((((((w2.setCell ⟨w.heap.size+1,3,none⟩ (.slice a2 n2 c2)).setCell ⟨w.heap.size,0,none⟩ (.int .i64 u.st)).setCell ⟨w.heap.size,1,none⟩ (.int .i64 u.code)).setCell ⟨w.heap.size,2,none⟩ (.int .i64 u.who)).setCell ⟨w.heap.size,3,none⟩ (.slice a2 n2 c2)).setCell ⟨w.heap.size,4,none⟩ (.int .i64 u.got)):=
  ((((((Fr.refl _ w2).setCell (p:=⟨w.heap.size+1,3,none⟩) (fun _=>.inr rfl) _).setCell (p:=⟨w.heap.size,0,none⟩) (fun _=>.inl rfl) _).setCell (p:=⟨w.heap.size,1,none⟩) (fun _=>.inl rfl) _).setCell (p:=⟨w.heap.size,2,none⟩) (fun _=>.inl rfl) _).setCell (p:=⟨w.heap.size,3,none⟩) (fun _=>.inl rfl) _).setCell (p:=⟨w.heap.size,4,none⟩) (fun _=>.inl rfl) _
 have hn:∀ b,Value.ownBlock (.slice a2 n2 c2)=some b->w.heap.size+2<=b:=fun b hb=>by have:=H2.2.2 b hb;simpa using this
 refine bodyPost_ret (results_row_tmp Tryz.results75 _ _ w.heap.size 50 _ (0,0) _ _ rfl (set5 b4') Tryz.underlying50 rfl (by kernel_rfl) rfl) rfl ⟨a2,n2,c2,rfl,H2.1.kept F (fun k hk e=>?_),?_,fun b hb=>by have:=hn b hb;omega⟩
 ·have:=hn k hk;omega
 ·exact ((((Below.refl _ w).alloc (Nat.le_refl _) _).alloc (by simp) _).trans (H2.2.1.mono (by simp only [size_alloc];omega))).trans (F.to_below (by omega) (fun k e=>by omega))
theorem fr5 (w:World) (g:Nat) (a b c d e:Value):Fr (fun k=>k=g) w (((((w.setCell ⟨g,0,none⟩ a).setCell ⟨g,1,none⟩ b).setCell ⟨g,2,none⟩ c).setCell ⟨g,3,none⟩ d).setCell ⟨g,4,none⟩ e):=
 (((((Fr.refl (fun k=>k=g) w).setCell (p:=⟨g,0,none⟩) (fun _=>rfl) _).setCell (p:=⟨g,1,none⟩) (fun _=>rfl) _).setCell (p:=⟨g,2,none⟩) (fun _=>rfl) _).setCell (p:=⟨g,3,none⟩) (fun _=>rfl) _).setCell (p:=⟨g,4,none⟩) (fun _=>rfl) _
def LookOut (u:List Int) (w:World) (v:Value) (w':World):Prop:=Sl w' 2 1 v (u.map lnI)/\Below w.heap.size w w'/\∀ b,v.ownBlock=some b->w.heap.size<=b
theorem look_face (i0 i1 i2 i3:Int) (t:Int) (E:Value->Prop) (cd:Int) (ws:List Int) (x:Nat) (hg:∀ ev,E ev->∀ w':World,Fr (fun _=>False) (w.alloc (.cells told0 50)) w'->Calls Tryz.prog 45 #[ev] w' fun e w2=>e=.returned (.int .i64 cd)/\Below w'.heap.size w' w2)
  (C:Calls Tryz.prog 75 #[.pointer (some ⟨x,0,none⟩),.int .i64 t] (w.alloc (.cells told0 50)) fun e w'=>∃ a m c ev,e=.returned (.tuple #[.agg #[.int .i64 i0,.int .i64 i1,.int .i64 i2,.slice a m c,.int .i64 i3],ev])/\E ev/\LookOut ws (w.alloc (.cells told0 50)) (.slice a m c) w') :
  Calls Tryz.prog 40 #[.pointer (some ⟨x,0,none⟩),.int .i64 t] w fun e w'=>∃ v,e=.returned (.tuple #[.agg #[.int .i64 i0,.int .i64 i1,.int .i64 i2,v,.int .i64 i3],.int .i64 cd])/\LookOut ws w v w':=by
 have HC:=hid C
 have HG:=hid hg
 clear C hg
 go_enter Tryz.func40,Tryz.ntmps40
 go_wp2_with (go_at_call 75;refine HC.out.mono ?_;rintro e w2 ⟨a2,n2,c2,ev,rfl,hev,H2⟩;replace H2:=hid H2;have HV:=hid hev;clear hev)
 have hb2:w2.heap[w.heap.size]? = some (.cells told0 50 (0,0)):=(H2.out.2.1.block _ (by simp)).trans (heap_alloc_new w _)
 have lw2:w.heap.size < w2.heap.size:=(Array.getElem?_eq_some_iff.1 hb2).1
 have hn:∀ b,Value.ownBlock (.slice a2 n2 c2)=some b->w.heap.size+1<=b/\b < w2.heap.size:=fun b hb=>⟨by have:=H2.out.2.2 b hb;simpa using this,H2.out.1.lt hb⟩
 have B3:∀ w3:World,Below (w2.alloc (.cells #[.int .i64 i0,.int .i64 i1,.int .i64 i2,.slice a2 n2 c2,.int .i64 i3] 50)).drew.heap.size (w2.alloc (.cells #[.int .i64 i0,.int .i64 i1,.int .i64 i2,.slice a2 n2 c2,.int .i64 i3] 50)).drew w3->Hid (w3.heap[w2.heap.size]? = some (.cells #[.int .i64 i0,.int .i64 i1,.int .i64 i2,.slice a2 n2 c2,.int .i64 i3] 50 (0,0))/\w3.heap[w.heap.size]? = some (.cells told0 50 (0,0))/\Below w.heap.size w w3/\Sl w3 2 1 (.slice a2 n2 c2) (ws.map lnI)):=by
  intro w3 h3
  have hh:(w2.alloc (.cells #[.int .i64 i0,.int .i64 i1,.int .i64 i2,.slice a2 n2 c2,.int .i64 i3] 50)).drew.heap.size=w2.heap.size+1:=by simp
  rw [hh] at h3
  have hB:Below w.heap.size w w2:=(((Below.refl _ w).alloc (Nat.le_refl _) _).trans (H2.out.2.1.mono (by simp)))
  refine ⟨(h3.block _ (by omega)).trans (heap_alloc_new w2 _),(h3.block _ (by omega)).trans ((Below.heap_alloc w2 _ _ lw2).trans hb2),(hB.alloc (by omega) _).drew.trans (h3.mono (by omega)),?_⟩
  have hf:Fr (fun _=>False) w2 w3:=(((Fr.refl (fun _=>False) w2).alloc _).drew).trans (Fr.of_below (by rw [hh];exact h3) _)
  exact H2.out.1.kept hf (fun _ _ h=>h)
 have F2:Hid (Fr (fun _=>False) (w.alloc (.cells told0 50)) (w2.alloc (.cells #[.int .i64 i0,.int .i64 i1,.int .i64 i2,.slice a2 n2 c2,.int .i64 i3] 50)).drew):=((Fr.of_below H2.out.2.1 _).alloc _).drew
 have HB3:=hid (And.intro B3 hn)
 clear B3 hb2 hn
 go_region_with (go_at_call 45;refine (HG.out ev HV.out _ F2.out).mono ?_;rintro e w3 ⟨rfl,H3⟩;have G3:=HB3.out.1 w3 H3;have c30:=cells5 G3.out.1;have c31:=cells5 G3.out.2.1;have f30:=frozen_of_row w3 w.heap.size 0 _ _ G3.out.2.1;have f31:=frozen_of_row w3 w.heap.size 1 _ _ G3.out.2.1;have f32:=frozen_of_row w3 w.heap.size 2 _ _ G3.out.2.1;have f33:=frozen_of_row w3 w.heap.size 3 _ _ G3.out.2.1;have f34:=frozen_of_row w3 w.heap.size 4 _ _ G3.out.2.1;obtain ⟨⟨c300,c301,c302,c303,c304⟩,_⟩:=c30;obtain ⟨⟨c310,c311,c312,c313,c314⟩,_⟩:=c31;clear H3)
 all_goals
  try go_wp2
  refine bodyPost_ret (results_row_tmp Tryz.results40 _ _ w.heap.size 50 _ (0,0) _ _ rfl (set5 G3.out.2.1) Tryz.underlying50 rfl (by kernel_rfl) rfl) rfl ⟨_,rfl,G3.out.2.2.2.kept (fr5 w3 _ _ _ _ _ _) (fun k hk e=>by have:=(HB3.out.2 k hk).1;omega),((((G3.out.2.2.1.setCell (p:=⟨w.heap.size,0,none⟩) (Nat.le_refl _) _).setCell (p:=⟨w.heap.size,1,none⟩) (Nat.le_refl _) _).setCell (p:=⟨w.heap.size,2,none⟩) (Nat.le_refl _) _).setCell (p:=⟨w.heap.size,3,none⟩) (Nat.le_refl _) _).setCell (p:=⟨w.heap.size,4,none⟩) (Nat.le_refl _) _,fun b hb=>by have:=(HB3.out.2 b hb).1;omega⟩
theorem KR.alloc {w:World}{B:Bk}{S:Nat->Prop}{K:RM}(h:KR w B S K) (o:Obj):KR (w.alloc o) B S K:=h.below ((Below.refl _ w).alloc (Nat.le_refl _) _)
theorem Gl.free {w w':World}(h:Gl w) (hf:Fr (fun _=>False) w w'):Gl w':=h.below (hf.to_below (Nat.le_refl _) (fun _ h=>h.elim))
theorem fLook_yes (t:Nat) (u:Th) (h:KR w B S K) (ok:K.Ok n) (hu:K.threads[t]? = some u) :
  Calls Tryz.prog 40 #[.pointer (some ⟨B.x,0,none⟩),.int .i64 t] w fun e w'=>∃ v,e=.returned (.tuple #[.agg #[.int .i64 u.st,.int .i64 u.code,.int .i64 u.who,v,.int .i64 u.got],.int .i64 0])/\LookOut u.ws w v w':=
 look_face w u.st u.code u.who u.got t (fun ev=>ev=.nilIface) 0 u.ws B.x (fun ev hev w' _=>by rw [hev];exact number_nil w') ((mLook_yes B S K n _ t u (h.alloc _) ok hu).mono (by rintro e w' ⟨a,m,c,rfl,H⟩;exact ⟨a,m,c,_,rfl,rfl,H⟩))
theorem fLook_no (t:Int) (hg:Gl w) (h:KR w B S K) (ok:K.Ok n) (ht:¬ (0<=t/\t < K.threads.length)) :
  Calls Tryz.prog 40 #[.pointer (some ⟨B.x,0,none⟩),.int .i64 t] w fun e w'=>∃ v,e=.returned (.tuple #[.agg #[.int .i64 0,.int .i64 0,.int .i64 0,v,.int .i64 0],.int .i64 3])/\LookOut [] w v w':=by
 refine look_face w 0 0 0 0 t (fun ev=>∃ s,ev=.iface 166 (.agg #[.string s,E3])) 3 [] B.x ?_ ((mLook_no B S K n _ t (h.alloc _) ok ht).mono ?_)
 ·rintro ev ⟨s,rfl⟩ w' hf
  exact number_met1 s 3 w' ((hg.alloc _).free hf)
 ·rintro e w' ⟨s,rfl,H⟩
  exact ⟨none,0,0,_,rfl,⟨s,rfl⟩,Sl.nil _ _ _,H,fun b hb=>by simp [Value.ownBlock] at hb⟩
end
open Go.RowKit
theorem find_mem {L:List (Int×Int×Int×Int)}{s n:Int}{p:Int×Int×Int×Int}(h:findQ L s n=some p):(∃ i:Nat,L[i]? = some p)/\p.1=s/\p.2.1=n:=by
 unfold findQ at h
 have h1:=List.mem_of_find?_eq_some h
 have h2:=List.find?_some h
 simp at h2
 exact ⟨List.mem_iff_getElem?.1 h1,h2⟩
theorem told_no {L:List (Int×Int×Int×Int)}(hr:∀ (i:Nat) p,L[i]? = some p->p.2.2.2≠0){s:Int}{k:Nat}(h:pb (findQ L s k)=0):told L s (k+1)=told L s k:=by
 rcases hf:findQ L s k with _ | p
 ·simp [told,hf]
 ·obtain ⟨⟨i,hi⟩,_⟩:=find_mem hf
  rw [hf] at h
  exact absurd h (hr i p hi)
theorem told_yes {L:List (Int×Int×Int×Int)}{s:Int}{k:Nat}(h:pb (findQ L s k)≠0):(told L s (k+1)).map qRow=(told L s k).map qRow ++ [[.int .i64 s,.int .i64 k,.int .i64 (pa (findQ L s k)),.int .i64 (pb (findQ L s k))]]:=by
 rcases hf:findQ L s k with _ | p
 ·rw [hf] at h;exact absurd rfl h
 ·obtain ⟨_,h1,h2⟩:=find_mem hf
  simp [told,hf,qRow,pa,pb,h1,h2]
theorem Tryz.ix229_0 (a0 a1 a2 a3 a4 a5 a6 a7 a8 a9 a10 a11:Int) (w:World):(Instr.index 229 (.agg #[.int .i64 a0,.int .i64 a1,.int .i64 a2,.int .i64 a3,.int .i64 a4,.int .i64 a5,.int .i64 a6,.int .i64 a7,.int .i64 a8,.int .i64 a9,.int .i64 a10,.int .i64 a11]) (.int .i64 0)).run Tryz.prog w=.ok (.agg #[.int .i64 a0,.int .i64 a1]) w:=by kernel_rfl
theorem Tryz.ix229_1 (a0 a1 a2 a3 a4 a5 a6 a7 a8 a9 a10 a11:Int) (w:World):(Instr.index 229 (.agg #[.int .i64 a0,.int .i64 a1,.int .i64 a2,.int .i64 a3,.int .i64 a4,.int .i64 a5,.int .i64 a6,.int .i64 a7,.int .i64 a8,.int .i64 a9,.int .i64 a10,.int .i64 a11]) (.int .i64 1)).run Tryz.prog w=.ok (.agg #[.int .i64 a2,.int .i64 a3]) w:=by kernel_rfl
theorem Tryz.ix229_2 (a0 a1 a2 a3 a4 a5 a6 a7 a8 a9 a10 a11:Int) (w:World):(Instr.index 229 (.agg #[.int .i64 a0,.int .i64 a1,.int .i64 a2,.int .i64 a3,.int .i64 a4,.int .i64 a5,.int .i64 a6,.int .i64 a7,.int .i64 a8,.int .i64 a9,.int .i64 a10,.int .i64 a11]) (.int .i64 2)).run Tryz.prog w=.ok (.agg #[.int .i64 a4,.int .i64 a5]) w:=by kernel_rfl
theorem Tryz.ix229_3 (a0 a1 a2 a3 a4 a5 a6 a7 a8 a9 a10 a11:Int) (w:World):(Instr.index 229 (.agg #[.int .i64 a0,.int .i64 a1,.int .i64 a2,.int .i64 a3,.int .i64 a4,.int .i64 a5,.int .i64 a6,.int .i64 a7,.int .i64 a8,.int .i64 a9,.int .i64 a10,.int .i64 a11]) (.int .i64 3)).run Tryz.prog w=.ok (.agg #[.int .i64 a6,.int .i64 a7]) w:=by kernel_rfl
theorem Tryz.ix229_4 (a0 a1 a2 a3 a4 a5 a6 a7 a8 a9 a10 a11:Int) (w:World):(Instr.index 229 (.agg #[.int .i64 a0,.int .i64 a1,.int .i64 a2,.int .i64 a3,.int .i64 a4,.int .i64 a5,.int .i64 a6,.int .i64 a7,.int .i64 a8,.int .i64 a9,.int .i64 a10,.int .i64 a11]) (.int .i64 4)).run Tryz.prog w=.ok (.agg #[.int .i64 a8,.int .i64 a9]) w:=by kernel_rfl
theorem Tryz.ix229_5 (a0 a1 a2 a3 a4 a5 a6 a7 a8 a9 a10 a11:Int) (w:World):(Instr.index 229 (.agg #[.int .i64 a0,.int .i64 a1,.int .i64 a2,.int .i64 a3,.int .i64 a4,.int .i64 a5,.int .i64 a6,.int .i64 a7,.int .i64 a8,.int .i64 a9,.int .i64 a10,.int .i64 a11]) (.int .i64 5)).run Tryz.prog w=.ok (.agg #[.int .i64 a10,.int .i64 a11]) w:=by kernel_rfl
theorem tellPasses_any (g o:Nat) (t:Int) (P:List (Int×Int×Int×Int)) (w:World) (_hg:g < w.heap.size) (hr:w.rangeAt g (o) [.int .i64 (pa (findQ P t 0)),.int .i64 (pb (findQ P t 0)),.int .i64 (pa (findQ P t 1)),.int .i64 (pb (findQ P t 1)),.int .i64 (pa (findQ P t 2)),.int .i64 (pb (findQ P t 2)),.int .i64 (pa (findQ P t 3)),.int .i64 (pb (findQ P t 3)),.int .i64 (pa (findQ P t 4)),.int .i64 (pb (findQ P t 4)),.int .i64 (pa (findQ P t 5)),.int .i64 (pb (findQ P t 5))]) (hk:∀ (i:Nat) p,P[i]? = some p->p.2.2.2≠0) :
  Calls Tryz.prog 141 #[.pointer (some ⟨g,o,none⟩),.int .i64 t] w fun e w'=>∃ a n c,e=.returned (.slice a n c)/\Sl w' 55 4 (.slice a n c) ((told P t 6).map qRow)/\Below w.heap.size w w'/\∀ b,Value.ownBlock (.slice a n c)=some b->w.heap.size<=b:=by
 obtain ⟨i0,hi0,hz0,hz1,hz2⟩:=info_parts Tryz.infoN55
 have HR:=hid hr
 have HK:=hid hk
 clear hr hk
 go_enter Tryz.func141,Tryz.ntmps141
 go_wp2_with (with_reducible (show wpList _ _ _ (⟨_,.load 229 _,_,_,_,none⟩ :: _) _ _);go_must (refine wpList_load_mid rfl 229 _ rfl g (o) rfl _ _ HR.out Tryz.underlying229 rfl (by kernel_rfl) ?_))
 go_loopw [5,12] (fun v i wr=>∃ (k n:Nat) (a:Option Addr) (c:Nat),k<=6/\i=.int .i64 k/\v=.slice a n c/\Hid ((told P t k).length=n/\Sl wr 55 4 (.slice a n c) ((told P t k).map qRow)/\Below w.heap.size w wr/\∀ b,Value.ownBlock (.slice a n c)=some b->w.heap.size<=b)) (fun _ i _=>6-(intOf i).toNat)
 case atStart=>exact ⟨0,0,none,0,Nat.zero_le _,rfl,rfl,rfl,Sl.nil w 55 4,Below.refl _ _,fun b hb=>by simp [Value.ownBlock] at hb⟩
 case round=>
  obtain ⟨k,n,a,c,hk,rfl,rfl,HI⟩:=hrel
  have hn:n<=6:=by have:=told_le P t k;have:=HI.out.1;omega
  by_cases hlt:k < 6
  ·have hix:∀ w,(Instr.index 229 (.agg #[.int .i64 (pa (findQ P t 0)),.int .i64 (pb (findQ P t 0)),.int .i64 (pa (findQ P t 1)),.int .i64 (pb (findQ P t 1)),.int .i64 (pa (findQ P t 2)),.int .i64 (pb (findQ P t 2)),.int .i64 (pa (findQ P t 3)),.int .i64 (pb (findQ P t 3)),.int .i64 (pa (findQ P t 4)),.int .i64 (pb (findQ P t 4)),.int .i64 (pa (findQ P t 5)),.int .i64 (pb (findQ P t 5))]) (.int .i64 k)).run Tryz.prog w=.ok (.agg #[.int .i64 (pa (findQ P t k)),.int .i64 (pb (findQ P t k))]) w:=by
    intro w
    have h6:k=0\/k=1\/k=2\/k=3\/k=4\/k=5:=by omega
    rcases h6 with rfl | rfl | rfl | rfl | rfl | rfl
    ·exact Tryz.ix229_0 _ _ _ _ _ _ _ _ _ _ _ _ w
    ·exact Tryz.ix229_1 _ _ _ _ _ _ _ _ _ _ _ _ w
    ·exact Tryz.ix229_2 _ _ _ _ _ _ _ _ _ _ _ _ w
    ·exact Tryz.ix229_3 _ _ _ _ _ _ _ _ _ _ _ _ w
    ·exact Tryz.ix229_4 _ _ _ _ _ _ _ _ _ _ _ _ w
    ·exact Tryz.ix229_5 _ _ _ _ _ _ _ _ _ _ _ _ w
   have TN:Hid (pb (findQ P t k)=0->told P t (k+1)=told P t k):=told_no HK.out
   have TY:Hid (pb (findQ P t k)≠0->(told P t (k+1)).map qRow=(told P t k).map qRow ++ [[.int .i64 t,.int .i64 k,.int .i64 (pa (findQ P t k)),.int .i64 (pb (findQ P t k))]]):=told_yes
   generalize pa (findQ P t k)=A at hix TY
   generalize pb (findQ P t k)=B at hix TY TN
   by_cases hB:B=0
   ·have hB':(B != 0)=false:=by simp [hB]
    have HB:=hid hB
    clear hB
    go_wp2
    refine ⟨⟨k+1,n,a,c,by omega,by go_num,rfl,?_⟩,by simp [intOf];omega⟩
    have e:=TN.out HB.out
    exact ⟨by rw [e];exact HI.out.1,by rw [e];exact HI.out.2.1.alloc _,HI.out.2.2.1.alloc HI.out.2.2.1.size _,HI.out.2.2.2⟩
   ·have hB':(B != 0)=true:=by simp [hB]
    have HB:=hid hB
    clear hB
    go_wp2_with (at_builtin;go_must (refine wpList_append_sl _ rfl _ _ 29 rfl 55 i0 _ 4 32 Tryz.underlying29 hi0 hz0 hz1 hz2 rfl (by decide) (.slice a n c) ((told P t k).map qRow) rfl ((HI.out.2.1.alloc _).alloc _) ⟨wr.heap.size+1,0,none⟩ 1 1 [[.int .i64 t,.int .i64 k,.int .i64 A,.int .i64 B]] rfl rfl (by decide) (by simp) (fun j u h=>cell_news2 wr _ #[.int .i64 t,.int .i64 k,.int .i64 A,.int .i64 B] 55 j u (by simpa using h)) (fun u hu=>by simp at hu;rcases hu with rfl | rfl | rfl | rfl <;> rfl) (by have:=HI.out.1;rw [List.length_map];unfold maxLen;omega) (by have:=HI.out.1;rw [List.length_map];omega) ?_);intro a4 c4 w4 G4)
    rw [List.length_map] at G4
    have e:=TY.out HB.out
    have el:(told P t (k+1)).length=(told P t k).length+1:=by have:=congrArg List.length e;simpa using this
    have F4:Fr (fun q=>w.heap.size<=q) wr w4:=G4.fr (((Fr.refl _ wr).alloc _).alloc _) (fun q hq _=>HI.out.2.2.2 q hq)
    refine ⟨⟨k+1,_,a4,c4,by omega,by go_num,rfl,el,by rw [e];exact G4.sl,HI.out.2.2.1.trans (F4.to_below HI.out.2.2.1.size (fun _ h=>h)),fun b hb=>?_⟩,by simp [intOf];omega⟩
    rcases G4.at_ b hb with h | h
    ·have:=HI.out.2.2.1.size
     simp at h
     omega
    ·exact HI.out.2.2.2 b h
  ·have hk6:k=6:=by omega
   subst hk6
   go_wp2
   go_ret
   exact ⟨_,_,_,rfl,HI.out.2.1,HI.out.2.2.1,HI.out.2.2.2⟩
theorem Tryz.ix230_0 (a0 b0 a1 b1 a2 b2 a3 b3 a4 b4 a5 b5:Int) (p0 p1 p2 p3 p4 p5:Option Addr) (w:World):(Instr.index 230 (.agg #[.int .i64 a0,.int .i64 b0,.pointer p0,.int .i64 a1,.int .i64 b1,.pointer p1,.int .i64 a2,.int .i64 b2,.pointer p2,.int .i64 a3,.int .i64 b3,.pointer p3,.int .i64 a4,.int .i64 b4,.pointer p4,.int .i64 a5,.int .i64 b5,.pointer p5]) (.int .i64 0)).run Tryz.prog w=.ok (.agg #[.int .i64 a0,.int .i64 b0,.pointer p0]) w:=by kernel_rfl
theorem Tryz.ix230_1 (a0 b0 a1 b1 a2 b2 a3 b3 a4 b4 a5 b5:Int) (p0 p1 p2 p3 p4 p5:Option Addr) (w:World):(Instr.index 230 (.agg #[.int .i64 a0,.int .i64 b0,.pointer p0,.int .i64 a1,.int .i64 b1,.pointer p1,.int .i64 a2,.int .i64 b2,.pointer p2,.int .i64 a3,.int .i64 b3,.pointer p3,.int .i64 a4,.int .i64 b4,.pointer p4,.int .i64 a5,.int .i64 b5,.pointer p5]) (.int .i64 1)).run Tryz.prog w=.ok (.agg #[.int .i64 a1,.int .i64 b1,.pointer p1]) w:=by kernel_rfl
theorem Tryz.ix230_2 (a0 b0 a1 b1 a2 b2 a3 b3 a4 b4 a5 b5:Int) (p0 p1 p2 p3 p4 p5:Option Addr) (w:World):(Instr.index 230 (.agg #[.int .i64 a0,.int .i64 b0,.pointer p0,.int .i64 a1,.int .i64 b1,.pointer p1,.int .i64 a2,.int .i64 b2,.pointer p2,.int .i64 a3,.int .i64 b3,.pointer p3,.int .i64 a4,.int .i64 b4,.pointer p4,.int .i64 a5,.int .i64 b5,.pointer p5]) (.int .i64 2)).run Tryz.prog w=.ok (.agg #[.int .i64 a2,.int .i64 b2,.pointer p2]) w:=by kernel_rfl
theorem Tryz.ix230_3 (a0 b0 a1 b1 a2 b2 a3 b3 a4 b4 a5 b5:Int) (p0 p1 p2 p3 p4 p5:Option Addr) (w:World):(Instr.index 230 (.agg #[.int .i64 a0,.int .i64 b0,.pointer p0,.int .i64 a1,.int .i64 b1,.pointer p1,.int .i64 a2,.int .i64 b2,.pointer p2,.int .i64 a3,.int .i64 b3,.pointer p3,.int .i64 a4,.int .i64 b4,.pointer p4,.int .i64 a5,.int .i64 b5,.pointer p5]) (.int .i64 3)).run Tryz.prog w=.ok (.agg #[.int .i64 a3,.int .i64 b3,.pointer p3]) w:=by kernel_rfl
theorem Tryz.ix230_4 (a0 b0 a1 b1 a2 b2 a3 b3 a4 b4 a5 b5:Int) (p0 p1 p2 p3 p4 p5:Option Addr) (w:World):(Instr.index 230 (.agg #[.int .i64 a0,.int .i64 b0,.pointer p0,.int .i64 a1,.int .i64 b1,.pointer p1,.int .i64 a2,.int .i64 b2,.pointer p2,.int .i64 a3,.int .i64 b3,.pointer p3,.int .i64 a4,.int .i64 b4,.pointer p4,.int .i64 a5,.int .i64 b5,.pointer p5]) (.int .i64 4)).run Tryz.prog w=.ok (.agg #[.int .i64 a4,.int .i64 b4,.pointer p4]) w:=by kernel_rfl
theorem Tryz.ix230_5 (a0 b0 a1 b1 a2 b2 a3 b3 a4 b4 a5 b5:Int) (p0 p1 p2 p3 p4 p5:Option Addr) (w:World):(Instr.index 230 (.agg #[.int .i64 a0,.int .i64 b0,.pointer p0,.int .i64 a1,.int .i64 b1,.pointer p1,.int .i64 a2,.int .i64 b2,.pointer p2,.int .i64 a3,.int .i64 b3,.pointer p3,.int .i64 a4,.int .i64 b4,.pointer p4,.int .i64 a5,.int .i64 b5,.pointer p5]) (.int .i64 5)).run Tryz.prog w=.ok (.agg #[.int .i64 a5,.int .i64 b5,.pointer p5]) w:=by kernel_rfl
theorem tellLeaves_any (g o:Nat) (t:Int) (P:List (Int×Int×Int×Int)) (up:Nat->Option Addr) (w:World) (_hg:g < w.heap.size) (hr:w.rangeAt g (o+12) [.int .i64 (pa (findQ P t 0)),.int .i64 (pb (findQ P t 0)),.pointer (up 0),.int .i64 (pa (findQ P t 1)),.int .i64 (pb (findQ P t 1)),.pointer (up 1),.int .i64 (pa (findQ P t 2)),.int .i64 (pb (findQ P t 2)),.pointer (up 2),.int .i64 (pa (findQ P t 3)),.int .i64 (pb (findQ P t 3)),.pointer (up 3),.int .i64 (pa (findQ P t 4)),.int .i64 (pb (findQ P t 4)),.pointer (up 4),.int .i64 (pa (findQ P t 5)),.int .i64 (pb (findQ P t 5)),.pointer (up 5)]) (hk:∀ (i:Nat) p,P[i]? = some p->p.2.2.2≠0) :
  Calls Tryz.prog 142 #[.pointer (some ⟨g,o,none⟩),.int .i64 t] w fun e w'=>∃ a n c,e=.returned (.slice a n c)/\Sl w' 67 4 (.slice a n c) ((told P t 6).map qRow)/\Below w.heap.size w w'/\∀ b,Value.ownBlock (.slice a n c)=some b->w.heap.size<=b:=by
 obtain ⟨i0,hi0,hz0,hz1,hz2⟩:=info_parts Tryz.infoN67
 have HR:=hid hr
 have HK:=hid hk
 clear hr hk
 go_enter Tryz.func142,Tryz.ntmps142
 go_wp2_with (with_reducible (show wpList _ _ _ (⟨_,.load 230 _,_,_,_,none⟩ :: _) _ _);go_must (refine wpList_load_mid rfl 230 _ rfl g (o+12) rfl _ _ HR.out Tryz.underlying230 rfl (by kernel_rfl) ?_))
 go_loopw [5,12] (fun v i wr=>∃ (k n:Nat) (a:Option Addr) (c:Nat),k<=6/\i=.int .i64 k/\v=.slice a n c/\Hid ((told P t k).length=n/\Sl wr 67 4 (.slice a n c) ((told P t k).map qRow)/\Below w.heap.size w wr/\∀ b,Value.ownBlock (.slice a n c)=some b->w.heap.size<=b)) (fun _ i _=>6-(intOf i).toNat)
 case atStart=>exact ⟨0,0,none,0,Nat.zero_le _,rfl,rfl,rfl,Sl.nil w 67 4,Below.refl _ _,fun b hb=>by simp [Value.ownBlock] at hb⟩
 case round=>
  obtain ⟨k,n,a,c,hk,rfl,rfl,HI⟩:=hrel
  have hn:n<=6:=by have:=told_le P t k;have:=HI.out.1;omega
  by_cases hlt:k < 6
  ·have hix:∀ w,(Instr.index 230 (.agg #[.int .i64 (pa (findQ P t 0)),.int .i64 (pb (findQ P t 0)),.pointer (up 0),.int .i64 (pa (findQ P t 1)),.int .i64 (pb (findQ P t 1)),.pointer (up 1),.int .i64 (pa (findQ P t 2)),.int .i64 (pb (findQ P t 2)),.pointer (up 2),.int .i64 (pa (findQ P t 3)),.int .i64 (pb (findQ P t 3)),.pointer (up 3),.int .i64 (pa (findQ P t 4)),.int .i64 (pb (findQ P t 4)),.pointer (up 4),.int .i64 (pa (findQ P t 5)),.int .i64 (pb (findQ P t 5)),.pointer (up 5)]) (.int .i64 k)).run Tryz.prog w=.ok (.agg #[.int .i64 (pa (findQ P t k)),.int .i64 (pb (findQ P t k)),.pointer (up k)]) w:=by
    intro w
    have h6:k=0\/k=1\/k=2\/k=3\/k=4\/k=5:=by omega
    rcases h6 with rfl | rfl | rfl | rfl | rfl | rfl
    ·exact Tryz.ix230_0 _ _ _ _ _ _ _ _ _ _ _ _ _ _ _ _ _ _ w
    ·exact Tryz.ix230_1 _ _ _ _ _ _ _ _ _ _ _ _ _ _ _ _ _ _ w
    ·exact Tryz.ix230_2 _ _ _ _ _ _ _ _ _ _ _ _ _ _ _ _ _ _ w
    ·exact Tryz.ix230_3 _ _ _ _ _ _ _ _ _ _ _ _ _ _ _ _ _ _ w
    ·exact Tryz.ix230_4 _ _ _ _ _ _ _ _ _ _ _ _ _ _ _ _ _ _ w
    ·exact Tryz.ix230_5 _ _ _ _ _ _ _ _ _ _ _ _ _ _ _ _ _ _ w
   have TN:Hid (pb (findQ P t k)=0->told P t (k+1)=told P t k):=told_no HK.out
   have TY:Hid (pb (findQ P t k)≠0->(told P t (k+1)).map qRow=(told P t k).map qRow ++ [[.int .i64 t,.int .i64 k,.int .i64 (pa (findQ P t k)),.int .i64 (pb (findQ P t k))]]):=told_yes
   generalize pa (findQ P t k)=A at hix TY
   generalize pb (findQ P t k)=B at hix TY TN
   by_cases hB:B=0
   ·have hB':(B != 0)=false:=by simp [hB]
    have HB:=hid hB
    clear hB
    go_wp2
    refine ⟨⟨k+1,n,a,c,by omega,by go_num,rfl,?_⟩,by simp [intOf];omega⟩
    have e:=TN.out HB.out
    exact ⟨by rw [e];exact HI.out.1,by rw [e];exact HI.out.2.1.alloc _,HI.out.2.2.1.alloc HI.out.2.2.1.size _,HI.out.2.2.2⟩
   ·have hB':(B != 0)=true:=by simp [hB]
    have HB:=hid hB
    clear hB
    go_wp2_with (at_builtin;go_must (refine wpList_append_sl _ rfl _ _ 30 rfl 67 i0 _ 4 32 Tryz.underlying30 hi0 hz0 hz1 hz2 rfl (by decide) (.slice a n c) ((told P t k).map qRow) rfl ((HI.out.2.1.alloc _).alloc _) ⟨wr.heap.size+1,0,none⟩ 1 1 [[.int .i64 t,.int .i64 k,.int .i64 A,.int .i64 B]] rfl rfl (by decide) (by simp) (fun j u h=>cell_news2 wr _ #[.int .i64 t,.int .i64 k,.int .i64 A,.int .i64 B] 67 j u (by simpa using h)) (fun u hu=>by simp at hu;rcases hu with rfl | rfl | rfl | rfl <;> rfl) (by have:=HI.out.1;rw [List.length_map];unfold maxLen;omega) (by have:=HI.out.1;rw [List.length_map];omega) ?_);intro a4 c4 w4 G4)
    rw [List.length_map] at G4
    have e:=TY.out HB.out
    have el:(told P t (k+1)).length=(told P t k).length+1:=by have:=congrArg List.length e;simpa using this
    have F4:Fr (fun q=>w.heap.size<=q) wr w4:=G4.fr (((Fr.refl _ wr).alloc _).alloc _) (fun q hq _=>HI.out.2.2.2 q hq)
    refine ⟨⟨k+1,_,a4,c4,by omega,by go_num,rfl,el,by rw [e];exact G4.sl,HI.out.2.2.1.trans (F4.to_below HI.out.2.2.1.size (fun _ h=>h)),fun b hb=>?_⟩,by simp [intOf];omega⟩
    rcases G4.at_ b hb with h | h
    ·have:=HI.out.2.2.1.size
     simp at h
     omega
    ·exact HI.out.2.2.2 b h
  ·have hk6:k=6:=by omega
   subst hk6
   go_wp2
   go_ret
   exact ⟨_,_,_,rfl,HI.out.2.1,HI.out.2.2.1,HI.out.2.2.2⟩
open Go.RowKit
def luA (gs:Nat) (o:Option Lf):Option Addr:=match o with | none=>none | some l=>if l.usp < 0 then none else some ⟨gs,l.usp.toNat*30+12+l.upg.toNat*3,none⟩
theorem lu_eq (gs:Nat) (o:Option Lf):lu gs o=.pointer (luA gs o):=by
 cases o with
 | none=>rfl
 | some l=>simp only [lu,luA,upV];split <;> rfl
theorem la_quad (L:List Lf) (s n:Int):la (findLf L s n)=pa (findQ (L.map quad) s n)/\lb (findLf L s n)=pb (findQ (L.map quad) s n):=by
 rw [find_quad];cases findLf L s n <;> exact ⟨rfl,rfl⟩
theorem sp_range {w:World}{B:Bk}{M:PM}{cs:Array Value}{rv:Nat->Value}{sl:List (Sv×Sv×Value)}(h:PmAt w B M cs rv sl){t:Nat}(ht:t < M.sp.toNat):w.rangeAt B.gs (t*30) (six M.passes t)/\w.rangeAt B.gs (t*30+12) (pages B.gs M.leaves t):=by
 have R:=h.sp.row (i:=t) (r:=spRowM B.gs M.passes M.leaves t) (sprows_get ht)
 constructor
 ·intro j v hv
  have hj:=(List.getElem?_eq_some_iff.1 hv).1
  exact R j v (by unfold spRowM;rw [List.getElem?_append_left hj];exact hv)
 ·intro j v hv
  have:=R (12+j) v (by unfold spRowM;rw [List.getElem?_append_right (by rw [six_len];omega),six_len,Nat.add_sub_cancel_left];exact hv)
  rwa [<- Nat.add_assoc] at this
structure TwoNew (Q L:List (Int×Int×Int×Int)) (t:Int) (w:World) (v u:Value) (w':World):Prop where
 vs:Sl w' 55 4 v ((told Q t 6).map qRow)
 us:Sl w' 67 4 u ((told L t 6).map qRow)
 below:Below w.heap.size w w'
 new:∀ b,v.ownBlock=some b\/u.ownBlock=some b->w.heap.size<=b
 ne:∀ b,v.ownBlock=some b->u.ownBlock≠some b
theorem TwoNew.kept {Q L:List (Int×Int×Int×Int)}{t:Int}{w:World}{v u:Value}{w1 w2:World}(h:TwoNew Q L t w v u w1){T:Nat->Prop}(hf:Fr T w1 w2) (ht:∀ k,T k->w.heap.size<=k/\v.ownBlock≠some k/\u.ownBlock≠some k):TwoNew Q L t w v u w2:=
 ⟨h.vs.kept hf (fun k hk q=>(ht k q).2.1 hk),h.us.kept hf (fun k hk q=>(ht k q).2.2 hk),h.below.trans (hf.to_below h.below.size (fun k q=>(ht k q).1)),h.new,h.ne⟩
theorem set2c {w:World}{g:Nat}{a0 a1 b0 b1:Value}{t:TypeId}(h:w.heap[g]? = some (.cells #[a0,a1] t (0,0))) :
  ((w.setCell ⟨g,0,none⟩ b0).setCell ⟨g,1,none⟩ b1).heap[g]? = some (.cells #[b0,b1] t (0,0))/\Fr (fun k=>k=g) w ((w.setCell ⟨g,0,none⟩ b0).setCell ⟨g,1,none⟩ b1):=
 ⟨heap_setCell_same _ g 1 _ t b1 (heap_setCell_same w g 0 _ t b0 h),((Fr.refl (fun k=>k=g) w).setCell (p:=⟨g,0,none⟩) (fun _=>rfl) _).setCell (p:=⟨g,1,none⟩) (fun _=>rfl) _⟩
theorem mSpace_no (B:Bk) (S:Nat->Prop) (K:RM) (n:Nat) (t:Int) (w:World) (h:KR w B S K) (ok:K.Ok n) (ht:¬ (0<=t/\t < K.sp)) :
  Calls Tryz.prog 89 #[.pointer (some ⟨B.x,0,none⟩),.int .i64 t] w fun e w'=>∃ s,e=.returned (.tuple #[.agg #[.slice none 0 0,.slice none 0 0],.iface 166 (.agg #[.string s,.iface 160 (.agg #[.int .i64 3])])])/\Below w.heap.size w w':=by
 obtain ⟨M,⟨cs,rv,sl,hm,hS⟩,R⟩:=h
 have hc6:=(hm.cell 6).trans hm.c6
 have lx:=hm.lx
 have s3:M.sp.toNat<=3:=by have:=ok.ft.sp3;rw [R.sp];omega
 have HT:Hid (¬ (0<=t/\t < (M.sp.toNat:Int))):=by unfold Hid;rw [R.sp];omega
 have hne:=e3_ne
 generalize M.sp.toNat=m at *
 clear hm hS ht R ok
 go_enter Tryz.func89,Tryz.ntmps89
 go_wp2_with (go_at_call 140;refine (pickS_no _ m B.cp t _ HT.out).mono ?_;rintro e w1 ⟨rfl,rfl⟩)
 exact bodyPost_ret (results_row_tmp Tryz.results89 _ _ w.heap.size 122 _ (0,0) _ _ rfl (heap_alloc_new w _) Tryz.underlying122 rfl (by kernel_rfl) rfl) rfl ⟨_,rfl,(Below.refl _ w).alloc (Nat.le_refl _) _⟩
theorem mSpace_yes (B:Bk) (S:Nat->Prop) (K:RM) (n:Nat) (t:Nat) (w:World) (h:KR w B S K) (ok:K.Ok n) (ht:(t:Int) < K.sp) :
  Calls Tryz.prog 89 #[.pointer (some ⟨B.x,0,none⟩),.int .i64 t] w fun e w'=>∃ av nv cv au nu cu,e=.returned (.tuple #[.agg #[.slice av nv cv,.slice au nu cu],.nilIface])/\TwoNew K.passes (K.leaves.map quad) t w (.slice av nv cv) (.slice au nu cu) w':=by
 obtain ⟨M,⟨cs,rv,sl,hm,hS⟩,R⟩:=h
 have hc6:=(hm.cell 6).trans hm.c6
 have lx:=hm.lx
 have s3:M.sp.toNat<=3:=by have:=ok.ft.sp3;rw [R.sp];omega
 have htm:t < M.sp.toNat:=by rw [R.sp];omega
 have hgl:B.gs < w.heap.size:=hm.ls
 have RR:=sp_range hm htm
 rw [R.ps,R.lf,six_eq,pages_eq] at RR
 simp only [lu_eq,(la_quad _ _ _).1,(la_quad _ _ _).2] at RR
 have rq:∀ (i:Nat) p,K.passes[i]? = some p->p.2.2.2≠0:=fun i p hp=>by have:=(ok.oq i p hp).2.2.2.2.2.2.1;omega
 have rl:∀ (i:Nat) p,(K.leaves.map quad)[i]? = some p->p.2.2.2≠0:=fun i p hp=>by
  rw [List.getElem?_map] at hp
  obtain ⟨l,hl,rfl⟩:=Option.map_eq_some_iff.1 hp
  have:=ok.lf l (List.mem_of_getElem? hl)
  unfold okLf at this
  simp only [quad];omega
 have RL:w.rangeAt B.gs (t*30+12) [.int .i64 (pa (findQ (K.leaves.map quad) t 0)),.int .i64 (pb (findQ (K.leaves.map quad) t 0)),.pointer ((fun k:Nat=>luA B.gs (findLf K.leaves t k)) 0),.int .i64 (pa (findQ (K.leaves.map quad) t 1)),.int .i64 (pb (findQ (K.leaves.map quad) t 1)),.pointer ((fun k:Nat=>luA B.gs (findLf K.leaves t k)) 1),.int .i64 (pa (findQ (K.leaves.map quad) t 2)),.int .i64 (pb (findQ (K.leaves.map quad) t 2)),.pointer ((fun k:Nat=>luA B.gs (findLf K.leaves t k)) 2),.int .i64 (pa (findQ (K.leaves.map quad) t 3)),.int .i64 (pb (findQ (K.leaves.map quad) t 3)),.pointer ((fun k:Nat=>luA B.gs (findLf K.leaves t k)) 3),.int .i64 (pa (findQ (K.leaves.map quad) t 4)),.int .i64 (pb (findQ (K.leaves.map quad) t 4)),.pointer ((fun k:Nat=>luA B.gs (findLf K.leaves t k)) 4),.int .i64 (pa (findQ (K.leaves.map quad) t 5)),.int .i64 (pb (findQ (K.leaves.map quad) t 5)),.pointer ((fun k:Nat=>luA B.gs (findLf K.leaves t k)) 5)]:=RR.2
 have HR:=hid (And.intro (And.intro RR.1 RL) (And.intro rq rl))
 generalize M.sp.toNat=m at *
 clear hm hS ht RR RL rq rl R ok
 generalize (fun k:Nat=>luA B.gs (findLf K.leaves t k))=up at *
 generalize K.passes=Q at *
 generalize K.leaves.map quad=L at *
 go_enter Tryz.func89,Tryz.ntmps89
 go_wp2_with (first
  | (go_at_call 140;refine (pickS_yes B.gs m B.cp t _ htm).mono ?_;rintro e w1 ⟨rfl,rfl⟩)
  | (go_at_call 141;refine (tellPasses_any B.gs (t*30) t Q (w.alloc (.cells #[.slice none 0 0,.slice none 0 0] 122)) (by simp;omega) (World.rangeAt_alloc HR.out.1.1 _) HR.out.2.1).mono ?_;rintro e w2 ⟨av,nv,cv,rfl,H2⟩;replace H2:=hid H2)
  | (go_at_call 142;refine (tellLeaves_any B.gs (t*30) t L up w2 ?_ ?_ HR.out.2.2).mono ?_;(have:=H2.out.2.1.size;simp at this;omega);(exact rangeAt_cells (World.rangeAt_alloc HR.out.1.2 _) (H2.out.2.1.block B.gs (by simp;omega)));rintro e w3 ⟨au,nu,cu,rfl,H3⟩;replace H3:=hid H3;have hb3:Hid (w3.heap[w.heap.size]? = some (.cells #[.slice none 0 0,.slice none 0 0] 122 (0,0))):=((H3.out.2.1.block _ (by have:=H2.out.2.1.size;simp at this;omega)).trans ((H2.out.2.1.block _ (by simp)).trans (heap_alloc_new w _)));have hc0:w3.cell? ⟨w.heap.size,0,none⟩=some (.slice none 0 0):=(cell_of_row w3 _ 0 _ _ _ hb3.out).trans rfl;have hc1:w3.cell? ⟨w.heap.size,1,none⟩=some (.slice none 0 0):=(cell_of_row w3 _ 1 _ _ _ hb3.out).trans rfl;have hf0:=frozen_of_row w3 w.heap.size 0 _ _ hb3.out;have hf1:=frozen_of_row w3 w.heap.size 1 _ _ hb3.out))
 have S2:=set2c (b0:=.slice av nv cv) (b1:=.slice au nu cu) hb3.out
 refine bodyPost_ret (results_row_tmp Tryz.results89 _ _ w.heap.size 122 _ (0,0) _ _ rfl S2.1 Tryz.underlying122 rfl (by kernel_rfl) rfl) rfl ⟨_,_,_,_,_,_,rfl,?_⟩
 have z2:=H2.out.2.1.size
 have z3:=H3.out.2.1.size
 simp only [size_alloc] at z2
 have nv':∀ k,Value.ownBlock (.slice av nv cv)=some k->w.heap.size+1<=k:=fun k hk=>by have:=H2.out.2.2 k hk;simpa using this
 have nu':∀ k,Value.ownBlock (.slice au nu cu)=some k->w2.heap.size<=k:=H3.out.2.2
 have T3:TwoNew Q L t w (.slice av nv cv) (.slice au nu cu) w3:=by
  refine ⟨H2.out.1.kept (Fr.of_below H3.out.2.1 (fun _=>False)) (fun _ _ h=>h),H3.out.1,?_,?_,?_⟩
  ·exact (((Below.refl _ w).alloc (Nat.le_refl _) _).trans (H2.out.2.1.mono (by simp))).trans (H3.out.2.1.mono (by omega))
  ·rintro b (hb | hb)
   ·have:=nv' b hb;omega
   ·have:=nu' b hb;omega
  ·intro b hb hb2
   have:=H2.out.1.lt hb
   have:=nu' b hb2
   omega
 refine T3.kept S2.2 (fun k e=>⟨by omega,fun h=>by have:=nv' k h;omega,fun h=>by have:=nu' k h;omega⟩)
theorem fSpace_no (B:Bk) (S:Nat->Prop) (K:RM) (n:Nat) (t:Int) (w:World) (hg:Gl w) (h:KR w B S K) (ok:K.Ok n) (ht:¬ (0<=t/\t < K.sp)) :
  Calls Tryz.prog 52 #[.pointer (some ⟨B.x,0,none⟩),.int .i64 t] w fun e w'=>e=.returned (.tuple #[.agg #[.slice none 0 0,.slice none 0 0],.int .i64 3])/\Below w.heap.size w w':=by
 have C:=hid (mSpace_no B S K n t (w.alloc (.cells #[.slice none 0 0,.slice none 0 0] 122)) (h.alloc _) ok ht)
 clear h ok ht
 go_enter Tryz.func52,Tryz.ntmps52
 go_wp2_with (go_at_call 89;refine C.out.mono ?_;rintro e w2 ⟨s,rfl,H2⟩;replace H2:=hid H2)
 have hb2:w2.heap[w.heap.size]? = some (.cells #[.slice none 0 0,.slice none 0 0] 122 (0,0)):=(H2.out.block _ (by simp)).trans (heap_alloc_new w _)
 have lw2:w.heap.size < w2.heap.size:=(Array.getElem?_eq_some_iff.1 hb2).1
 have B3:∀ w3:World,Below (w2.alloc (.cells #[.slice none 0 0,.slice none 0 0] 122)).drew.heap.size (w2.alloc (.cells #[.slice none 0 0,.slice none 0 0] 122)).drew w3->Hid (w3.heap[w2.heap.size]? = some (.cells #[.slice none 0 0,.slice none 0 0] 122 (0,0))/\w3.heap[w.heap.size]? = some (.cells #[.slice none 0 0,.slice none 0 0] 122 (0,0))/\Below w.heap.size w w3):=by
  intro w3 h3
  have hh:(w2.alloc (.cells #[.slice none 0 0,.slice none 0 0] 122)).drew.heap.size=w2.heap.size+1:=by simp
  rw [hh] at h3
  refine ⟨(h3.block _ (by omega)).trans (heap_alloc_new w2 _),(h3.block _ (by omega)).trans ((Below.heap_alloc w2 _ _ lw2).trans hb2),?_⟩
  have hB:Below w.heap.size w w2:=(((Below.refl _ w).alloc (Nat.le_refl _) _).trans (H2.out.mono (by simp)))
  exact (hB.alloc (by omega) _).drew.trans (h3.mono (by omega))
 have HB3:=hid B3
 clear B3 hb2
 go_region_with (go_at_call 45;refine (number_met1 s 3 (w2.alloc (.cells #[.slice none 0 0,.slice none 0 0] 122)).drew ((((hg.alloc _).below (by rw [size_alloc];simpa using H2.out)).alloc _))).mono ?_;rintro e w3 ⟨rfl,H3⟩;have G3:=HB3.out w3 H3;have c30:w3.cell? ⟨w2.heap.size,0,none⟩=some (.slice none 0 0):=(cell_of_row w3 _ 0 _ _ _ G3.out.1).trans rfl;have c31:w3.cell? ⟨w2.heap.size,1,none⟩=some (.slice none 0 0):=(cell_of_row w3 _ 1 _ _ _ G3.out.1).trans rfl;have d30:w3.cell? ⟨w.heap.size,0,none⟩=some (.slice none 0 0):=(cell_of_row w3 _ 0 _ _ _ G3.out.2.1).trans rfl;have d31:w3.cell? ⟨w.heap.size,1,none⟩=some (.slice none 0 0):=(cell_of_row w3 _ 1 _ _ _ G3.out.2.1).trans rfl;have f30:=frozen_of_row w3 w.heap.size 0 _ _ G3.out.2.1;have f31:=frozen_of_row w3 w.heap.size 1 _ _ G3.out.2.1;clear H3)
 all_goals
  try go_wp2
  exact bodyPost_ret (results_row_tmp Tryz.results52 _ _ w.heap.size 122 _ (0,0) _ _ rfl (set2c G3.out.2.1).1 Tryz.underlying122 rfl (by kernel_rfl) rfl) rfl ⟨rfl,(G3.out.2.2.setCell (p:=⟨w.heap.size,0,none⟩) (Nat.le_refl _) _).setCell (p:=⟨w.heap.size,1,none⟩) (Nat.le_refl _) _⟩
theorem fSpace_yes (B:Bk) (S:Nat->Prop) (K:RM) (n:Nat) (t:Nat) (w:World) (h:KR w B S K) (ok:K.Ok n) (ht:(t:Int) < K.sp) :
  Calls Tryz.prog 52 #[.pointer (some ⟨B.x,0,none⟩),.int .i64 t] w fun e w'=>∃ av nv cv au nu cu,e=.returned (.tuple #[.agg #[.slice av nv cv,.slice au nu cu],.int .i64 0])/\TwoNew K.passes (K.leaves.map quad) t w (.slice av nv cv) (.slice au nu cu) w':=by
 have C:=hid (mSpace_yes B S K n t (w.alloc (.cells #[.slice none 0 0,.slice none 0 0] 122)) (h.alloc _) ok ht)
 clear h ok ht
 generalize K.passes=Q at *
 generalize K.leaves.map quad=L at *
 go_enter Tryz.func52,Tryz.ntmps52
 go_wp2_with (go_at_call 89;refine C.out.mono ?_;rintro e w2 ⟨av,nv,cv,au,nu,cu,rfl,H2⟩;replace H2:=hid H2)
 have hb2:w2.heap[w.heap.size]? = some (.cells #[.slice none 0 0,.slice none 0 0] 122 (0,0)):=(H2.out.below.block _ (by simp)).trans (heap_alloc_new w _)
 have lw2:w.heap.size < w2.heap.size:=(Array.getElem?_eq_some_iff.1 hb2).1
 have B3:∀ w3:World,Below (w2.alloc (.cells #[.slice av nv cv,.slice au nu cu] 122)).drew.heap.size (w2.alloc (.cells #[.slice av nv cv,.slice au nu cu] 122)).drew w3->Hid (w3.heap[w2.heap.size]? = some (.cells #[.slice av nv cv,.slice au nu cu] 122 (0,0))/\w3.heap[w.heap.size]? = some (.cells #[.slice none 0 0,.slice none 0 0] 122 (0,0))/\TwoNew Q L t (w.alloc (.cells #[.slice none 0 0,.slice none 0 0] 122)) (.slice av nv cv) (.slice au nu cu) w3):=by
  intro w3 h3
  have hh:(w2.alloc (.cells #[.slice av nv cv,.slice au nu cu] 122)).drew.heap.size=w2.heap.size+1:=by simp
  rw [hh] at h3
  refine ⟨(h3.block _ (by omega)).trans (heap_alloc_new w2 _),(h3.block _ (by omega)).trans ((Below.heap_alloc w2 _ _ lw2).trans hb2),?_⟩
  have hf:Fr (fun _=>False) w2 w3:=(((Fr.refl (fun _=>False) w2).alloc _).drew).trans (Fr.of_below (by rw [hh];exact h3) _)
  exact H2.out.kept hf (fun _ h=>h.elim)
 have HB3:=hid B3
 clear B3 hb2
 go_region_with (go_at_call 45;refine (number_nil _).mono ?_;rintro e w3 ⟨rfl,H3⟩;have G3:=HB3.out w3 H3;have c30:w3.cell? ⟨w2.heap.size,0,none⟩=some (.slice av nv cv):=(cell_of_row w3 _ 0 _ _ _ G3.out.1).trans rfl;have c31:w3.cell? ⟨w2.heap.size,1,none⟩=some (.slice au nu cu):=(cell_of_row w3 _ 1 _ _ _ G3.out.1).trans rfl;have d30:w3.cell? ⟨w.heap.size,0,none⟩=some (.slice none 0 0):=(cell_of_row w3 _ 0 _ _ _ G3.out.2.1).trans rfl;have d31:w3.cell? ⟨w.heap.size,1,none⟩=some (.slice none 0 0):=(cell_of_row w3 _ 1 _ _ _ G3.out.2.1).trans rfl;have f30:=frozen_of_row w3 w.heap.size 0 _ _ G3.out.2.1;have f31:=frozen_of_row w3 w.heap.size 1 _ _ G3.out.2.1;clear H3)
 all_goals
  try go_wp2
  have S2:=set2c (b0:=.slice av nv cv) (b1:=.slice au nu cu) G3.out.2.1
  refine bodyPost_ret (results_row_tmp Tryz.results52 _ _ w.heap.size 122 _ (0,0) _ _ rfl S2.1 Tryz.underlying122 rfl (by kernel_rfl) rfl) rfl ⟨_,_,_,_,_,_,rfl,?_⟩
  have N:=G3.out.2.2
  have n1:=N.new
  simp only [size_alloc] at n1
  have N':TwoNew Q L t w (.slice av nv cv) (.slice au nu cu) w3:=⟨N.vs,N.us,((Below.refl _ w).alloc (Nat.le_refl _) _).trans (N.below.mono (by simp)),fun b hb=>by have:=n1 b hb;omega,N.ne⟩
  exact N'.kept S2.2 (fun k e=>⟨by omega,fun h=>by have:=n1 k (.inl h);omega,fun h=>by have:=n1 k (.inr h);omega⟩)
end Go.Proofs.YteejjgbeknnmeaaGreatDoor
