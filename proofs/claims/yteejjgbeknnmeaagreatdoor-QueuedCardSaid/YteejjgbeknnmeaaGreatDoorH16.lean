import Derived.Test.YteejjgbeknnmeaaGreatDoorH01
import Derived.Test.YteejjgbeknnmeaaGreatDoorH09
import Derived.Deep.QuietTactic
import Derived.BigQuiet
import Derived.Test.YteejjgbeknnmeaaGreatDoorH15
import Derived.Test.YteejjgbeknnmeaaGreatDoorH10
import Derived.Test.YteejjgbeknnmeaaGreatDoorH04
import Derived.Deep.RegionLaw
import Derived.Deep.RegionLawGrows
import Derived.Test.YteejjgbeknnmeaaGreatDoorH11
set_option maxRecDepth 100000
set_option maxHeartbeats 20000000
namespace Go.Proofs.YteejjgbeknnmeaaGreatDoor
open Go.RowKit
theorem between_any (n lo hi:Int) (w:World):Calls Tryz.prog 132 #[.int .i64 n,.int .i64 lo,.int .i64 hi] w fun e w'=>e=.returned (.bool (inI n lo hi))/\w'=w:=by
 unfold inI
 by_cases h1:lo<=n
 ·have d1:decide (lo<=n)=true:=by simpa using h1
  go_enter Tryz.func132,Tryz.ntmps132
  go_wp2
  go_ret
  exact ⟨by simp [h1],rfl⟩
 ·have d1:decide (lo<=n)=false:=by simpa using h1
  go_enter Tryz.func132,Tryz.ntmps132
  go_wp2
  go_ret
  exact ⟨by simp,rfl⟩
theorem btw {n lo hi:Int}{v:Bool}(f:inI n lo hi=v) (w:World):Calls Tryz.prog 132 #[.int .i64 n,.int .i64 lo,.int .i64 hi] w fun e w'=>e=.returned (.bool v)/\w'=w:=by rw [<- f];exact between_any n lo hi w
theorem msT {k:Nat}{m:Ms}(f1:inI m.dst (-1) 5=true) (f2:decide ((m.words.length:Int)<=4)=true) (f3:inI m.item (-1) 5=true) (f4:inI m.rt 0 3=true) (f5:inI m.frm (-2) ((k:Int)-1)=true) (f6:inI m.win (-1) 5=true) (f7:decide (-1<=m.wait)=true) (f8:(m.dst != -1)=true\/(m.frm != -2)=true):isMs k m=true:=by
 have a:=inI_true.1 f1
 have b:=inI_true.1 f5
 have e:(decide (0<=m.dst) || decide (-2 < m.frm))=true:=by
  simp at f8 ⊢
  omega
 simp only [isMs,f1,f2,f3,f4,f5,f6,f7,e,Bool.and_true]
theorem msF {k:Nat}{m:Ms}(f8:(m.dst != -1)=false) (f9:(m.frm != -2)=false):isMs k m=false:=by
 simp at f8 f9
 simp [isMs,f8,f9]
open Go.RowKit
theorem bits_all {r a:Int}(h:r=0\/r=1\/r=2\/r=3) (ha:a=1\/a=2\/a=3):(bits .and .i64 r a == a)=hasRt r a:=by
 rcases h with rfl | rfl | rfl | rfl <;> rcases ha with rfl | rfl | rfl <;> rfl
theorem findQ_mem {L:List (Int×Int×Int×Int)}{s n:Int}{p:Int×Int×Int×Int}(h:findQ L s n=some p):∃ i:Nat,L[i]? = some p:=List.getElem?_of_mem (List.mem_of_find?_eq_some h)
theorem pb_rt {L:List (Int×Int×Int×Int)}{sp h:Int}(ho:∀ (i:Nat) p,L[i]? = some p->okQ sp h p) (s n:Int):pb (findQ L s n)=0\/pb (findQ L s n)=1\/pb (findQ L s n)=2\/pb (findQ L s n)=3:=by
 rcases hf:findQ L s n with _ | p
 ·exact .inl rfl
 ·obtain ⟨i,hi⟩:=findQ_mem hf
  have:=ho i p hi
  have h1:=this.2.2.2.2.2.2.1
  have h2:=this.2.2.2.2.2.2.2
  simp only [pb]
  omega
theorem passes_left {w w2 w':World} {B:Bk} {S:Nat->Prop} {M:PM} {K:RM} {cs:Array Value} {rv:Nat->Value} {sl:List (Sv×Sv×Value)} {t s n:Nat} {Q:List (Int×Int×Int×Int)} (h:MH w2 B S M K cs rv sl t s n) (b:Below w.heap.size w w2) (P:PmAt w' B { M with passes:=Q,leaves:=M.leaves } cs rv sl/\Fr (fun k=>k=B.gs) w2 w'):KLeft B S none_ { K with passes:=Q } w w':=
 ⟨_,⟨⟨S,⟨cs,rv,sl,P.1,h.hS⟩,fun _ h=>.inl h⟩,(Fr.of_below b S).trans (P.2.mono (fun k _ e=>(h.hS k).2 (.inl (.inr (.inr (.inl e))))))⟩,⟨h.r.len,h.r.th,h.r.rows,h.r.wl,h.r.sp,rfl,h.r.lf,h.r.fr,h.r.cl⟩⟩
section
variable (B:Bk) (S:Nat->Prop) (M:PM) (K:RM) (cs:Array Value) (rv:Nat->Value) (sl:List (Sv×Sv×Value)) (t s n:Nat) (w:World)
theorem drop_yes (h:MH w B S M K cs rv sl t s n) (hc:¬ K.cur < 0) (a:Int) :
  Calls Tryz.prog 88 #[.pointer (some ⟨B.x,0,none⟩),.int .i64 a] w fun e w'=>Ans (K.drop a).1 e w w'/\KLeft B S none_ (K.drop a).2 w w':=by
 have HH:=hid h
 have hne:=e3_ne
 have HN:=hid hc
 clear hc
 by_cases hp:0<=a/\a < 6
 ·obtain ⟨k,rfl⟩:=Int.eq_ofNat_of_zero_le hp.1
  have hk:k < 6:=by omega
  have i1:inI (k:Int) 0 5=true:=inI_true.2 (by omega)
  have HC:=hid (slot_yes B S M K cs rv sl t s n w h k hk)
  clear h hp
  go_enter Tryz.func88,Tryz.ntmps88
  go_wp2_with fail
  refine HC.out.mono ?_
  rintro e w2 ⟨rfl,B2⟩
  have KC:=(HH.out.below B2).slot hk
  have kp:=KC.1
  have kq:=KC.2
  clear KC
  rcases hf:findQ K.passes s k with _ | p
  ·have E:=hid (show K.drop k=(4,K) by unfold RM.drop;rw [if_neg (show ¬ K.cur < 0 by have:=HN.out;omega),if_pos i1,HH.out.h,hf])
   rw [hf] at kp kq
   simp only [pa,pb] at kp kq
   have HB:=hid B2
   clear B2 hf
   go_wp2
   go_ret
   rw [E.out]
   exact ⟨.inr ⟨_,rfl,HB.out⟩,HH.out.kr.left HB.out⟩
  ·have E:=hid (show K.drop k=(0,{ K with passes:=outQ K.passes s k }) by unfold RM.drop;rw [if_neg (show ¬ K.cur < 0 by have:=HN.out;omega),if_pos i1,HH.out.h,hf])
   obtain ⟨i,hi⟩:=findQ_mem hf
   have h4:=(HH.out.ok.oq i p hi).2.2.2.2.2.2.1
   have hz:(p.2.2.2 == 0)=false:=by simp;omega
   rw [hf] at kp kq
   simp only [pa,pb] at kp kq
   have fz:=(HH.out.below B2).m.sfro
   have ST:=(HH.out.below B2).m.setSlot (s:=s) (j:=k) (o:=none) (Q':=outQ K.passes s k) HH.out.lt hk (fun s' i=>by rw [HH.out.r.ps];exact outQ_find K.passes s k s' i)
   have HB:=hid (And.intro B2 ST)
   clear B2 ST hf hi h4
   go_wp2
   go_ret
   rw [E.out]
   exact ⟨.inl ⟨rfl,rfl⟩,passes_left (HH.out.below HB.out.1) HB.out.1 HB.out.2⟩
 ·have E:=hid (show K.drop a=(3,K) by unfold RM.drop;rw [if_neg (show ¬ K.cur < 0 by have:=HN.out;omega),if_neg];intro hc;have:=inI_true.1 hc;omega)
  have HC:=hid (slot_no B S M K cs rv sl t s n w h a hp)
  clear h hp
  go_enter Tryz.func88,Tryz.ntmps88
  go_wp2_with (go_at_call 139;refine HC.out.mono ?_;rintro e w2 ⟨rfl,B2⟩;replace B2:=hid B2)
  go_ret
  rw [E.out]
  exact ⟨.inr ⟨_,rfl,B2.out⟩,HH.out.kr.left B2.out⟩
theorem derive_yes (h:MH w B S M K cs rv sl t s n) (hc:¬ K.cur < 0) (a b r:Int) :
  Calls Tryz.prog 138 #[.pointer (some ⟨B.x,0,none⟩),.int .i64 a,.int .i64 b,.int .i64 r] w fun e w'=>(((K.derive a b r).1=0/\e=.returned .nilIface)\/(e=.returned (.iface 160 (.agg #[.int .i64 (K.derive a b r).1]))/\Below w.heap.size w w'))/\KLeft B S none_ (K.derive a b r).2 w w':=by
 have HH:=hid h
 have hne:=e3_ne
 have HN:=hid hc
 clear hc
 by_cases hp:0<=a/\a < 6
 ·obtain ⟨k,rfl⟩:=Int.eq_ofNat_of_zero_le hp.1
  have hk:k < 6:=by omega
  have i1:inI (k:Int) 0 5=true:=inI_true.2 (by omega)
  have HC:=hid (slot_yes B S M K cs rv sl t s n w h k hk)
  by_cases hq:0<=b/\b < 6
  ·obtain ⟨j,rfl⟩:=Int.eq_ofNat_of_zero_le hq.1
   have hj:j < 6:=by omega
   have i2:inI (j:Int) 0 5=true:=inI_true.2 (by omega)
   have HD:Hid (∀ w2,Below w.heap.size w w2->Calls Tryz.prog 139 #[.pointer (some ⟨B.x,0,none⟩),.int .i64 j] w2 fun e w'=>e=.returned (.tuple #[.pointer (some ⟨B.gs,s*30+j*2,none⟩),.nilIface])/\Below w2.heap.size w2 w'):=fun w2 b=>slot_yes B S M K cs rv sl t s n w2 (HH.out.below b) j hj
   clear h hp hq
   cases i3:inI r 1 3 with
   | true=>
    have hr:=inI_true.1 i3
    have hb:=bits_all (pb_rt HH.out.ok.oq s k) (show r=1\/r=2\/r=3 by omega)
    clear hr
    go_enter Tryz.func138,Tryz.ntmps138
    go_wp2_with fail
    refine HC.out.mono ?_
    rintro e w2 ⟨rfl,B2⟩
    have HB2:=hid B2
    clear B2
    go_wp2_with fail
    refine (HD.out w2 HB2.out).mono ?_
    rintro e w3 ⟨rfl,B3⟩
    have B2:Below w.heap.size w w3:=HB2.out.trans (B3.mono HB2.out.size)
    have KC:=(HH.out.below B2).slot hk
    have kp:=KC.1
    have kq:=KC.2
    have KD:=(HH.out.below B2).slot hj
    have dp:=KD.1
    have dq:=KD.2
    clear KC KD B3
    cases hh:hasRt (pb (findQ K.passes s k)) r with
    | false=>
     have E:=hid (show K.derive k j r=(4,K) by
      unfold RM.derive;rw [if_neg (show ¬ K.cur < 0 by have:=HN.out;omega),if_pos ⟨i1,i2,i3⟩,HH.out.h]
      rcases hf:findQ K.passes s k with _ | p
      ·rfl
      ·rw [hf] at hh;simp only [pb] at hh;simp [hh])
     rw [hh] at hb
     have HB:=hid B2
     generalize pb (findQ K.passes s k)=b1 at *
     clear B2 hh
     go_wp2_with (first
      | (go_at_call 132;refine (between_any _ _ _ _).mono ?_;rintro e w4 ⟨rfl,rfl⟩;rw [i3])
      | (go_at_call 137;refine (coreHolds_any _ _ _).mono ?_;rintro e w4 ⟨rfl,rfl⟩;rw [hb]))
     go_ret
     rw [E.out]
     exact ⟨.inr ⟨rfl,HB.out⟩,HH.out.kr.left HB.out⟩
    | true=>
     obtain ⟨p,hf⟩:∃ p,findQ K.passes s k=some p:=by
      rcases hf:findQ K.passes s k with _ | p
      ·rw [hf] at hh
       have:(0:Int)=r:=by simpa [hasRt,pb] using hh
       have:=inI_true.1 i3
       omega
      ·exact ⟨p,rfl⟩
     have E:=hid (show K.derive k j r=(0,{ K with passes:=putQ K.passes s j p.2.2.1 r }) by
      unfold RM.derive;rw [if_neg (show ¬ K.cur < 0 by have:=HN.out;omega),if_pos ⟨i1,i2,i3⟩,HH.out.h,hf]
      rw [hf] at hh;simp only [pb] at hh;simp [hh])
     rw [hh] at hb
     rw [hf] at kp kq hb
     simp only [pa,pb] at kp kq hb
     have fz:=(HH.out.below B2).m.sfro
     have ST:=(HH.out.below B2).m.setSlot (s:=s) (j:=j) (o:=some (s,j,p.2.2.1,r)) (Q':=putQ K.passes s j p.2.2.1 r) HH.out.lt hj (fun s' i=>by rw [HH.out.r.ps];exact putQ_find K.passes s j p.2.2.1 r s' i)
     simp only [pa,pb] at ST
     have HB:=hid (And.intro B2 ST)
     generalize pb (findQ K.passes s j)=b1 at *
     generalize pa (findQ K.passes s j)=a1 at *
     clear B2 hh hf ST
     go_wp2_with (first
      | (go_at_call 132;refine (between_any _ _ _ _).mono ?_;rintro e w4 ⟨rfl,rfl⟩;rw [i3])
      | (go_at_call 137;refine (coreHolds_any _ _ _).mono ?_;rintro e w4 ⟨rfl,rfl⟩;rw [hb]))
     go_ret
     rw [E.out]
     exact ⟨.inl ⟨rfl,rfl⟩,passes_left (HH.out.below HB.out.1) HB.out.1 HB.out.2⟩
   | false=>
    have E:=hid (show K.derive k j r=(3,K) by unfold RM.derive;rw [if_neg (show ¬ K.cur < 0 by have:=HN.out;omega),if_neg];intro hc;rw [i3] at hc;exact absurd hc.2.2 (by decide))
    go_enter Tryz.func138,Tryz.ntmps138
    go_wp2_with fail
    refine HC.out.mono ?_
    rintro e w2 ⟨rfl,B2⟩
    have HB2:=hid B2
    clear B2
    go_wp2_with fail
    refine (HD.out w2 HB2.out).mono ?_
    rintro e w3 ⟨rfl,B3⟩
    have B2:=hid (HB2.out.trans (B3.mono HB2.out.size))
    clear B3
    go_wp2_with (go_at_call 132;refine (between_any _ _ _ _).mono ?_;rintro e w4 ⟨rfl,rfl⟩;rw [i3])
    go_ret
    rw [E.out]
    exact ⟨.inr ⟨rfl,B2.out⟩,HH.out.kr.left B2.out⟩
  ·have E:=hid (show K.derive k b r=(3,K) by unfold RM.derive;rw [if_neg (show ¬ K.cur < 0 by have:=HN.out;omega),if_neg];intro hc;have:=inI_true.1 hc.2.1;omega)
   have HQ:=hid hq
   clear h hp hq
   go_enter Tryz.func138,Tryz.ntmps138
   go_wp2_with fail
   refine HC.out.mono ?_
   rintro e w2 ⟨rfl,B2⟩
   have HB2:=hid B2
   clear B2
   go_wp2_with fail
   refine (slot_no B S M K cs rv sl t s n w2 (HH.out.below HB2.out) b HQ.out).mono ?_
   rintro e w3 ⟨rfl,B3⟩
   have B2:=hid (HB2.out.trans (B3.mono HB2.out.size))
   clear B3
   go_wp2
   go_ret
   rw [E.out]
   exact ⟨.inr ⟨rfl,B2.out⟩,HH.out.kr.left B2.out⟩
 ·have E:=hid (show K.derive a b r=(3,K) by unfold RM.derive;rw [if_neg (show ¬ K.cur < 0 by have:=HN.out;omega),if_neg];intro hc;have:=inI_true.1 hc.1;omega)
  have HC:=hid (slot_no B S M K cs rv sl t s n w h a hp)
  clear h hp
  go_enter Tryz.func138,Tryz.ntmps138
  go_wp2_with (go_at_call 139;refine HC.out.mono ?_;rintro e w2 ⟨rfl,B2⟩;replace B2:=hid B2)
  go_ret
  rw [E.out]
  exact ⟨.inr ⟨rfl,B2.out⟩,HH.out.kr.left B2.out⟩
end
section
variable (B:Bk) (S:Nat->Prop) (K:RM) (n:Nat) (w:World)
theorem mDrop_any (h:KR w B S K) (ok:K.Ok n) (a:Int) :
  Calls Tryz.prog 88 #[.pointer (some ⟨B.x,0,none⟩),.int .i64 a] w fun e w'=>Ans (K.drop a).1 e w w'/\KLeft B S none_ (K.drop a).2 w w':=by
 by_cases hc:K.cur < 0
 ·have HC:=hid (slot_none B S K w h ok.ft hc a)
  have E:=hid (show K.drop a=(2,K) by unfold RM.drop;rw [if_pos hc])
  have HH:=hid h
  have hne:=e2_ne
  clear h hc ok
  go_enter Tryz.func88,Tryz.ntmps88
  go_wp2_with (go_at_call 139;refine HC.out.mono ?_;rintro e w2 ⟨rfl,B2⟩;replace B2:=hid B2)
  go_ret
  rw [E.out]
  exact ⟨.inr ⟨_,rfl,B2.out⟩,HH.out.left B2.out⟩
 ·obtain ⟨M,cs,rv,sl,t,s,h⟩:=MH.of h ok hc
  exact drop_yes B S M K cs rv sl t s n w h hc a
theorem derive_any (h:KR w B S K) (ok:K.Ok n) (a b r:Int) :
  Calls Tryz.prog 138 #[.pointer (some ⟨B.x,0,none⟩),.int .i64 a,.int .i64 b,.int .i64 r] w fun e w'=>(((K.derive a b r).1=0/\e=.returned .nilIface)\/(e=.returned (.iface 160 (.agg #[.int .i64 (K.derive a b r).1]))/\Below w.heap.size w w'))/\KLeft B S none_ (K.derive a b r).2 w w':=by
 by_cases hc:K.cur < 0
 ·have HC:=hid (slot_none B S K w h ok.ft hc a)
  have E:=hid (show K.derive a b r=(2,K) by unfold RM.derive;rw [if_pos hc])
  have HH:=hid h
  have hne:=e2_ne
  clear h hc ok
  go_enter Tryz.func138,Tryz.ntmps138
  go_wp2_with (go_at_call 139;refine HC.out.mono ?_;rintro e w2 ⟨rfl,B2⟩;replace B2:=hid B2)
  go_ret
  rw [E.out]
  exact ⟨.inr ⟨rfl,B2.out⟩,HH.out.left B2.out⟩
 ·obtain ⟨M,cs,rv,sl,t,s,h⟩:=MH.of h ok hc
  exact derive_yes B S M K cs rv sl t s n w h hc a b r
theorem mDerive_any (h:KR w B S K) (ok:K.Ok n) (a b r:Int) :
  Calls Tryz.prog 87 #[.pointer (some ⟨B.x,0,none⟩),.int .i64 a,.int .i64 b,.int .i64 r] w fun e w'=>Ans (K.derive a b r).1 e w w'/\KLeft B S none_ (K.derive a b r).2 w w':=by
 have HC:=hid (derive_any B S K n w h ok a b r)
 clear h ok
 generalize (K.derive a b r).1=cd at *
 generalize (K.derive a b r).2=K2 at *
 go_enter Tryz.func87,Tryz.ntmps87
 go_wp2_with fail
 refine HC.out.mono ?_
 rintro e w2 ⟨⟨hz,rfl⟩ | ⟨rfl,BB⟩,H2⟩
 ·have HB:=hid (And.intro hz H2)
  clear H2 hz
  go_wp2
  go_ret
  exact ⟨.inl ⟨HB.out.1,rfl⟩,HB.out.2⟩
 ·have HB:=hid (And.intro BB H2)
  clear H2 BB
  go_wp2
  go_ret
  exact ⟨.inr ⟨_,rfl,HB.out.1⟩,HB.out.2⟩
end
open Go.RowKit
theorem between_dec (n a b:Int) (w:World):Calls Tryz.prog 132 #[.int .i64 n,.int .i64 a,.int .i64 b] w fun e w'=>e=.returned (.bool (decide (a<=n/\n<=b)))/\w'=w:=between_any n a b w
theorem noConfig_any (w:World):Calls Tryz.prog 151 #[] w fun e w'=>e=.returned (.iface 160 (.agg #[.int .i64 1]))/\w'=w:=by
 go_enter Tryz.func151,Tryz.ntmps151
 go_wp2
 go_ret
 exact ⟨rfl,rfl⟩
def thRow (u:Int×Int×Int×Int):List Value:=[.int .i64 u.1,.int .i64 u.2.1,.int .i64 u.2.2.2,.int .i64 1,.int .i64 0,.int .i64 (-1),.slice none 0 0,.int .i64 (-1),.int .i64 0,.slice none 0 0,.int .i64 0,.int .i64 0,.int .i64 0,.int .i64 0,.int .i64 0,.int .u64 0,.slice none 0 0]
def spRows (n:Nat) (Q L:List (Int×Int×Int×Int)):List (List Value):=spRowsM n 0 Q (L.map lfOf)
abbrev c00:Int×(Nat->Int):=(0,fr0)
structure MAt (w:World) (x:Nat) (ty:TypeId) (cs:Array Value) (cl:Int×(Nat->Int)) (ts:List (Int×Int×Int×Int)) (n:Nat) (Q L:List (Int×Int×Int×Int)) (ln:Nat->List Nat) (vt:Value) (rv:Nat->Value) (vs:Value):Prop where
 blk:w.heap[x]? = some (.cells cs ty (0,0))
 size:cs.size=39
 c0:cs[0]? = some (.int .u64 cl.1)
 c1:cs[1]? = some vt
 row:∀ r,r < 4->cs[2+r]? = some (rv r)
 c6:cs[6]? = some vs
 th:Sl w 158 17 vt (ts.map thRow)
 li:∀ r,r < 4->Sl w 3 1 (rv r) ((ln r).map lnRow)
 sp:Sl w 232 30 vs (spRows n Q L)
 n1:vt.ownBlock≠some x
 n2:∀ r,r < 4->(rv r).ownBlock≠some x
 n3:vs.ownBlock≠some x
 n4:∀ r,r < 4->∀ k,(rv r).ownBlock=some k->vt.ownBlock≠some k/\vs.ownBlock≠some k
 n5:∀ r s,r < 4->s < 4->r≠s->∀ k,(rv r).ownBlock=some k->(rv s).ownBlock≠some k
 n6:∀ k,vt.ownBlock=some k->vs.ownBlock≠some k
 fr:∀ j,j < 32->cs[7+j]? = some (.int .i64 (cl.2 j))
def MOwn (x:Nat) (vt:Value) (rv:Nat->Value) (vs:Value) (k:Nat):Prop:=k=x\/vt.ownBlock=some k\/(∃ r,r < 4/\(rv r).ownBlock=some k)\/vs.ownBlock=some k
section
variable {w w':World}{x:Nat}{ty:TypeId}{cs:Array Value}{cl:Int×(Nat->Int)}{ts:List (Int×Int×Int×Int)}{n:Nat}{Q L:List (Int×Int×Int×Int)}{ln:Nat->List Nat}{vt:Value}{rv:Nat->Value}{vs:Value}
theorem MAt.kept (h:MAt w x ty cs cl ts n Q L ln vt rv vs){T:Nat->Prop}(hf:Fr T w w') (ht:∀ k,MOwn x vt rv vs k->¬ T k):MAt w' x ty cs cl ts n Q L ln vt rv vs:=
 ⟨(hf.block x (Array.getElem?_eq_some_iff.1 h.blk).1 (ht x (.inl rfl))).trans h.blk,h.size,h.c0,h.c1,h.row,h.c6,h.th.kept hf (fun k hk=>ht k (.inr (.inl hk))),fun r hr=>(h.li r hr).kept hf (fun k hk=>ht k (.inr (.inr (.inl ⟨r,hr,hk⟩)))),h.sp.kept hf (fun k hk=>ht k (.inr (.inr (.inr hk)))),
 h.n1,h.n2,h.n3,h.n4,h.n5,h.n6,h.fr⟩
theorem MAt.below (h:MAt w x ty cs cl ts n Q L ln vt rv vs) (hb:Below w.heap.size w w'):MAt w' x ty cs cl ts n Q L ln vt rv vs:=h.kept (Fr.of_below hb (fun _=>False)) (fun _ _ h=>h)
theorem MAt.lt (h:MAt w x ty cs cl ts n Q L ln vt rv vs){k:Nat}(hk:MOwn x vt rv vs k):k < w.heap.size:=by
 rcases hk with rfl | hk | ⟨r,hr,hk⟩ | hk
 ·exact (Array.getElem?_eq_some_iff.1 h.blk).1
 ·exact h.th.lt hk
 ·exact (h.li r hr).lt hk
 ·exact h.sp.lt hk
theorem MAt.cell (h:MAt w x ty cs cl ts n Q L ln vt rv vs) (j:Nat):w.cell? ⟨x,j,none⟩=cs[j]?:=cell_of_row w x j _ _ _ h.blk
end
theorem th_last (ts:List (Int×Int×Int×Int)) (t:Nat) (m:Int):(ts.modify t (fun u=>(u.1,u.2.1,m,u.2.2.2))).map thRow=ts.map thRow:=by
 apply List.ext_getElem?
 intro i
 simp only [List.getElem?_map,List.getElem?_modify]
 by_cases e:t=i <;> simp [e] <;> (cases ts[i]? <;> rfl)
theorem MAt.setRow {w w':World}{x:Nat}{ty:TypeId}{cs:Array Value}{cl:Int×(Nat->Int)}{ts:List (Int×Int×Int×Int)}{n:Nat}{Q L:List (Int×Int×Int×Int)}{ln:Nat->List Nat}{vt:Value}{rv:Nat->Value}{vs:Value}
  (h:MAt w x ty cs cl ts n Q L ln vt rv vs){r t:Nat}(hr:r < 4){v':Value}(hb:w'.heap[x]? = some (.cells (cs.setIfInBounds (2+r) v') ty (0,0))) (hs:Sl w' 3 1 v' (((ln r).erase t ++ [t]).map lnRow)) (hf:Fr (fun k=>k=x\/(rv r).ownBlock=some k) w w')
  (hn:∀ k,v'.ownBlock=some k->w.heap.size<=k\/(rv r).ownBlock=some k) (last:Int) :
  MAt w' x ty (cs.setIfInBounds (2+r) v') cl (ts.modify t (fun u=>(u.1,u.2.1,last,u.2.2.2))) n Q L (comeLast ln r t) vt (fun s=>if s=r then v' else rv s) vs/\(∀ k,MOwn x vt (fun s=>if s=r then v' else rv s) vs k->MOwn x vt rv vs k\/w.heap.size<=k):=by
 have hx:=(Array.getElem?_eq_some_iff.1 h.blk).1
 have nv:∀ k,v'.ownBlock=some k->k≠x/\vt.ownBlock≠some k/\vs.ownBlock≠some k/\∀ s,s < 4->s≠r->(rv s).ownBlock≠some k:=by
  intro k hk
  rcases hn k hk with h1 | h1
  ·exact ⟨by omega,fun e=>by have:=h.th.lt e;omega,fun e=>by have:=h.sp.lt e;omega,fun s hs _ e=>by have:=(h.li s hs).lt e;omega⟩
  ·exact ⟨fun e=>h.n2 r hr (e ▸ h1),(h.n4 r hr k h1).1,(h.n4 r hr k h1).2,fun s hs hne=>h.n5 r s hr hs (Ne.symm hne) k h1⟩
 refine ⟨⟨hb,by simpa using h.size,?_,?_,?_,?_,?_,?_,h.sp.kept hf (fun k hk q=>?_),h.n1,?_,h.n3,?_,?_,h.n6,fun j hj=>by rw [Array.getElem?_setIfInBounds_ne (by omega)];exact h.fr j hj⟩,?_⟩
 ·rw [Array.getElem?_setIfInBounds_ne (by omega)];exact h.c0
 ·rw [Array.getElem?_setIfInBounds_ne (by omega)];exact h.c1
 ·intro s hs4
  by_cases e:s=r
  ·subst e
   rw [if_pos rfl,Array.getElem?_setIfInBounds_self_of_lt (by have:=h.size;omega)]
  ·rw [if_neg e,Array.getElem?_setIfInBounds_ne (by omega)];exact h.row s hs4
 ·rw [Array.getElem?_setIfInBounds_ne (by omega)];exact h.c6
 ·rw [th_last]
  refine h.th.kept hf (fun k hk q=>?_)
  rcases q with q | q
  ·exact h.n1 (q ▸ hk)
  ·exact (h.n4 r hr k q).1 hk
 ·intro s hs4
  by_cases e:s=r
  ·subst e
   simp only [comeLast,if_pos]
   exact hs
  ·simp only [comeLast,if_neg e]
   refine (h.li s hs4).kept hf (fun k hk q=>?_)
   rcases q with q | q
   ·exact h.n2 s hs4 (q ▸ hk)
   ·exact h.n5 r s hr hs4 (Ne.symm e) k q hk
 ·rcases q with q | q
  ·exact h.n3 (q ▸ hk)
  ·exact (h.n4 r hr k q).2 hk
 ·intro s hs4
  by_cases e:s=r
  ·simp only [if_pos e];exact fun q=>(nv x q).1 rfl
  ·simp only [if_neg e];exact h.n2 s hs4
 ·intro s hs4 k hk
  by_cases e:s=r
  ·simp only [if_pos e] at hk;exact ⟨(nv k hk).2.1,(nv k hk).2.2.1⟩
  ·simp only [if_neg e] at hk;exact h.n4 s hs4 k hk
 ·intro s q hs4 hq4 hne k hk
  by_cases e:s=r
  ·simp only [if_pos e] at hk
   simp only [if_neg (show ¬ q=r by omega)]
   exact (nv k hk).2.2.2 q hq4 (by omega)
  ·simp only [if_neg e] at hk
   by_cases e2:q=r
   ·simp only [if_pos e2]
    exact fun h2=>(nv k h2).2.2.2 s hs4 e hk
   ·simp only [if_neg e2];exact h.n5 s q hs4 hq4 hne k hk
 ·rintro k (hk | hk | ⟨s,hs4,hk⟩ | hk)
  ·exact .inl (.inl hk)
  ·exact .inl (.inr (.inl hk))
  ·by_cases e:s=r
   ·simp only [if_pos e] at hk
    rcases hn k hk with h1 | h1
    ·exact .inr h1
    ·exact .inl (.inr (.inr (.inl ⟨r,hr,h1⟩)))
   ·simp only [if_neg e] at hk
    exact .inl (.inr (.inr (.inl ⟨s,hs4,hk⟩)))
  ·exact .inl (.inr (.inr (.inr hk)))
theorem MAt.setSp {w:World}{x:Nat}{ty:TypeId}{cs:Array Value}{cl:Int×(Nat->Int)}{ts:List (Int×Int×Int×Int)}{n:Nat}{Q L:List (Int×Int×Int×Int)}{ln:Nat->List Nat}{vt:Value}{rv:Nat->Value}{g m c:Nat}
  (h:MAt w x ty cs cl ts n Q L ln vt rv (.slice (some ⟨g,0,none⟩) m c)){s o:Nat}(hs:s < n) (vs:List Value) (ho:o+vs.length<=30){Q' L':List (Int×Int×Int×Int)}(hr:(spRows n Q L).set s (setAt (spRowM 0 Q (L.map lfOf) s) o vs)=spRows n Q' L') :
  MAt (w.setCells g (s*30+o) vs) x ty cs cl ts n Q' L' ln vt rv (.slice (some ⟨g,0,none⟩) m c)/\Fr (fun k=>k=g) w (w.setCells g (s*30+o) vs):=by
 have hl:s < (spRows n Q L).length:=by simp [spRows,spRowsM,hs]
 have R:=Sl.run vs o w _ h.sp hl ho
 have er:(spRows n Q L)[s]=spRowM 0 Q (L.map lfOf) s:=by simp [spRows,spRowsM]
 rw [er,hr] at R
 have F:=R.2
 exact ⟨⟨(F.block x (Array.getElem?_eq_some_iff.1 h.blk).1 (fun q=>h.n3 (by rw [q];rfl))).trans h.blk,h.size,h.c0,h.c1,h.row,h.c6,h.th.kept F (fun k hk q=>h.n6 k hk (by rw [q];rfl)),fun r hr=>(h.li r hr).kept F (fun k hk q=>(h.n4 r hr k hk).2 (by rw [q];rfl)),R.1,h.n1,h.n2,h.n3,h.n4,h.n5,h.n6,h.fr⟩,F⟩
theorem findQ_append (Q:List (Int×Int×Int×Int)) (p:Int×Int×Int×Int) (s n:Int):findQ (Q ++ [p]) s n=(findQ Q s n).or (if p.1=s/\p.2.1=n then some p else none):=by
 unfold findQ
 rw [List.find?_append]
 congr 1
 by_cases h:p.1=s/\p.2.1=n
 ·rw [if_pos h];simp [h.1,h.2]
 ·rw [if_neg h,List.find?_cons]
  have:(p.1 == s && p.2.1 == n)=false:=by
   rw [Bool.and_eq_false_iff]
   by_cases h1:p.1=s
   ·right;simp;exact fun h2=>h ⟨h1,h2⟩
   ·left;simpa using h1
  rw [this];rfl
theorem find_lfOf (L:List (Int×Int×Int×Int)) (s n:Int):findLf (L.map lfOf) s n=(findQ L s n).map lfOf:=by
 unfold findLf findQ
 rw [List.find?_map]
 rfl
theorem findQ_put {Q:List (Int×Int×Int×Int)}{s j a b:Int}(hn:findQ Q s j=none) (s' i:Int):findQ (Q ++ [(s,j,a,b)]) s' i=if s=s'/\j=i then some (s,j,a,b) else findQ Q s' i:=by
 rw [findQ_append]
 by_cases e:s=s'/\j=i
 ·obtain ⟨rfl,rfl⟩:=e;simp [hn]
 ·rw [if_neg e,if_neg e];simp
theorem rows_passes (n:Nat) (Q L:List (Int×Int×Int×Int)) (s j:Nat) (hs:s < n) (hj:j < 6) (a b:Int) (hn:findQ Q s j=none) :
  (spRows n Q L).set s (setAt (spRowM 0 Q (L.map lfOf) s) (j*2) [.int .i64 a,.int .i64 b])=spRows n (Q ++ [((s:Int),(j:Int),a,b)]) L:=
 rows_updP (o:=some ((s:Int),(j:Int),a,b)) n hs hj (findQ_put hn)
theorem rows_leaves (n:Nat) (Q L:List (Int×Int×Int×Int)) (s j:Nat) (hs:s < n) (hj:j < 6) (a b:Int) (hn:findQ L s j=none) :
  (spRows n Q L).set s (setAt (spRowM 0 Q (L.map lfOf) s) (12+j*3) [.int .i64 a,.int .i64 b,.pointer none])=spRows n Q (L ++ [((s:Int),(j:Int),a,b)]):=by
 have h:=rows_updL (gs:=0) (Q:=Q) (L:=L.map lfOf) (L':=(L ++ [((s:Int),(j:Int),a,b)]).map lfOf) (o:=some (lfOf ((s:Int),(j:Int),a,b))) n hs hj (fun s' i=>by
  rw [find_lfOf,find_lfOf,findQ_put hn]
  split <;> rfl)
 exact h
theorem sp_cells {w:World}{g m c n:Nat}{Q L:List (Int×Int×Int×Int)}(h:Sl w 232 30 (.slice (some ⟨g,0,none⟩) m c) (spRows n Q L)){s j:Nat}(hs:s < n) (hj:j < 6) :
  w.cell? ⟨g,s*30+j*2,none⟩=some (.int .i64 (pa (findQ Q s j)))/\w.cell? ⟨g,s*30+j*2+1,none⟩=some (.int .i64 (pb (findQ Q s j))) /\
  w.cell? ⟨g,s*30+12+j*3,none⟩=some (.int .i64 (pa (findQ L s j)))/\w.cell? ⟨g,s*30+12+j*3+1,none⟩=some (.int .i64 (pb (findQ L s j)))/\w.cell? ⟨g,s*30+12+j*3+2,none⟩=some (.pointer none):=by
 have R:=h.row (i:=s) (r:=spRowM 0 Q (L.map lfOf) s) (sprows_get hs)
 have a1:=six_at (Q:=Q) (s:=s) hj
 have a2:=pages_at (gs:=0) (L:=L.map lfOf) (s:=s) hj
 have ea:la (findLf (L.map lfOf) s j)=pa (findQ L s j)/\lb (findLf (L.map lfOf) s j)=pb (findQ L s j)/\lu 0 (findLf (L.map lfOf) s j)=.pointer none:=by
  rw [find_lfOf]
  cases findQ L s j <;> exact ⟨rfl,rfl,rfl⟩
 rw [ea.1,ea.2.1,ea.2.2] at a2
 have L1:∀ k v,(six Q s)[k]? = some v->w.cell? ⟨g,s*30+k,none⟩=some v:=fun k v hv=>R k v (by unfold spRowM;rw [List.getElem?_append_left (List.getElem?_eq_some_iff.1 hv).1];exact hv)
 have L2:∀ k v,(pages 0 (L.map lfOf) s)[k]? = some v->w.cell? ⟨g,s*30+12+k,none⟩=some v:=fun k v hv=>by
  have:=R (12+k) v (by unfold spRowM;rw [List.getElem?_append_right (by rw [six_len];omega),six_len,Nat.add_sub_cancel_left];exact hv)
  rwa [<- Nat.add_assoc] at this
 exact ⟨L1 _ _ a1.1,L1 _ _ a1.2,L2 _ _ a2.1,L2 _ _ a2.2.1,L2 _ _ a2.2.2⟩
open Go.RowKit
theorem ln_le {ts:List (Int×Int×Int×Int)}{last:Int}{ln:Nat->List Nat}(h:Lined ts last ln){m:Nat}(hm:ts.length=m) (h6:m<=6) (r:Nat):(ln r).length<=1000:=by
 have:=nodup_lt ts.length (ln r) (h.nodup r) (fun t ht=>h.lt ht)
 omega
theorem Tryz.infoN158:(Tryz.prog.info? 158).map (fun i=>(i.zero,i.size,i.bytes))=some (some (.agg #[.int .i64 0,.int .i64 0,.int .i64 0,.int .i64 0,.int .i64 0,.int .i64 0,.slice none 0 0,.int .i64 0,.int .i64 0,.slice none 0 0,.int .i64 0,.int .i64 0,.int .i64 0,.int .i64 0,.int .i64 0,.int .u64 0,.slice none 0 0]),17,184):=by kernel_rfl
theorem addThread_no (x:Nat) (ty:TypeId) (cs:Array Value) (cl:Int×(Nat->Int)) (ts:List (Int×Int×Int×Int)) (n:Nat) (Q L:List (Int×Int×Int×Int)) (ln:Nat->List Nat) (vt:Value) (rv:Nat->Value) (vs:Value) (s r:Int) (w:World)
  (h:MAt w x ty cs cl ts n Q L ln vt rv vs) (hb:¬ (0<=s/\s < n/\0<=r/\r < 4)) :
  Calls Tryz.prog 153 #[.pointer (some ⟨x,0,none⟩),.agg #[.int .i64 s,.int .i64 r]] w fun e w'=>e=.returned (.iface 160 (.agg #[.int .i64 1]))/\Below w.heap.size w w':=by
 have hc6:=(h.cell 6).trans h.c6
 have lx:=(Array.getElem?_eq_some_iff.1 h.blk).1
 obtain ⟨a,c,ev⟩:=h.sp.slice
 have hlen:(spRows n Q L).length=n:=by simp [spRows,spRowsM]
 rw [hlen] at ev
 subst ev
 clear h hlen
 by_cases h1:0<=s/\s < (n:Int)
 ·have d1:decide (0<=s/\s < (n:Int))=true:=by simpa using h1
  have d2:decide (0<=r/\r < 4)=false:=by simp;omega
  clear hb h1
  go_enter Tryz.func153,Tryz.ntmps153
  go_wp2_with fail
  go_quiet ((go_at_call 149;exact Calls.quiet_of_same (below_any _ _ _)))
  go_wp2_with (first | (go_at_call 149;refine (below_any _ _ _).mono ?_;rintro e w1 ⟨rfl,rfl⟩) | (go_at_call 151;refine (noConfig_any _).mono ?_;rintro e w1 ⟨rfl,rfl⟩))
  go_ret
  exact ⟨rfl,below_drewN ((Below.refl _ w).alloc (Nat.le_refl _) _) _⟩
 ·have d1:decide (0<=s/\s < (n:Int))=false:=by simpa using h1
  clear hb h1
  go_enter Tryz.func153,Tryz.ntmps153
  go_wp2_with fail
  go_quiet ((go_at_call 149;exact Calls.quiet_of_same (below_any _ _ _)))
  go_wp2_with (first | (go_at_call 149;refine (below_any _ _ _).mono ?_;rintro e w1 ⟨rfl,rfl⟩) | (go_at_call 151;refine (noConfig_any _).mono ?_;rintro e w1 ⟨rfl,rfl⟩))
  go_ret
  exact ⟨rfl,below_drewN ((Below.refl _ w).alloc (Nat.le_refl _) _) _⟩
theorem Fr.after {S T:Nat->Prop}{a b c:World}(h:Fr S a b) (k:Fr T b c) (ht:∀ i,i < a.heap.size->T i->S i):Fr S a c:=(h.join k).mono (fun i hi e=>e.elim id (ht i hi))
theorem MAt.addTh {w wX w4:World}{x:Nat}{ty:TypeId}{cs:Array Value}{cl:Int×(Nat->Int)}{ts:List (Int×Int×Int×Int)}{n:Nat}{Q L:List (Int×Int×Int×Int)}{ln:Nat->List Nat}{vt:Value}{rv:Nat->Value}{vs v4:Value}{u:Int×Int×Int×Int}
  (h:MAt w x ty cs cl ts n Q L ln vt rv vs) (hX:Fr (fun _=>False) w wX) (G:Grew 158 17 vt wX v4 (ts.map thRow ++ [thRow u]) w4) :
  MAt (w4.setCell ⟨x,1,none⟩ v4) x ty (cs.setIfInBounds 1 v4) cl (ts ++ [u]) n Q L ln v4 rv vs/\Fr (MOwn x vt rv vs) w (w4.setCell ⟨x,1,none⟩ v4)/\∀ k,MOwn x v4 rv vs k->MOwn x vt rv vs k\/w.heap.size<=k:=by
 have lx:=(Array.getElem?_eq_some_iff.1 h.blk).1
 have hX':=h.kept hX (fun _ _ h=>h)
 have F4:Fr (fun k=>vt.ownBlock=some k) w w4:=G.fr (hX.mono (fun _ _ h=>h.elim)) (fun k hk _=>hk)
 have F5:Fr (fun k=>k=x) w4 (w4.setCell ⟨x,1,none⟩ v4):=(Fr.refl (fun k=>k=x) w4).setCell (p:=⟨x,1,none⟩) (fun _=>rfl) _
 have hb4:w4.heap[x]? = some (.cells cs ty (0,0)):=(F4.block x lx h.n1).trans h.blk
 have nv:∀ k,v4.ownBlock=some k->w.heap.size<=k\/vt.ownBlock=some k:=fun k hk=>by
  rcases G.at_ k hk with e | e
  ·have:=hX.size;left;omega
  ·exact .inr e
 have nx:∀ k,v4.ownBlock=some k->k≠x:=fun k hk e=>by
  rcases nv k hk with h1 | h1
  ·omega
  ·exact h.n1 (e ▸ h1)
 have F:=F4.join F5
 refine ⟨⟨heap_setCell_same w4 x 1 cs ty v4 hb4,by simpa using h.size,?_,?_,?_,?_,?_,fun r hr=>(h.li r hr).kept F ?_,h.sp.kept F ?_,fun e=>nx x e rfl,h.n2,h.n3,?_,h.n5,?_,fun j hj=>by rw [Array.getElem?_setIfInBounds_ne (by omega)];exact h.fr j hj⟩,(F4.mono (fun k _ e=>.inr (.inl e))).trans (F5.mono (fun k _ e=>.inl e)),?_⟩
 ·rw [Array.getElem?_setIfInBounds_ne (by omega)];exact h.c0
 ·rw [Array.getElem?_setIfInBounds_self_of_lt (by have:=h.size;omega)]
 ·intro r hr;rw [Array.getElem?_setIfInBounds_ne (by omega)];exact h.row r hr
 ·rw [Array.getElem?_setIfInBounds_ne (by omega)];exact h.c6
 ·rw [List.map_append]
  exact G.sl.kept F5 (fun k hk e=>nx k hk e)
 ·rintro k hk (e | e)
  ·exact (h.n4 r hr k hk).1 e
  ·exact h.n2 r hr (e ▸ hk)
 ·rintro k hk (e | e)
  ·exact h.n6 k e hk
  ·exact h.n3 (e ▸ hk)
 ·intro r hr k hk
  refine ⟨fun e=>?_,(h.n4 r hr k hk).2⟩
  rcases nv k e with h1 | h1
  ·have:=(h.li r hr).lt hk;omega
  ·exact (h.n4 r hr k hk).1 h1
 ·intro k hk e
  rcases nv k hk with h1 | h1
  ·have:=h.sp.lt e;omega
  ·exact h.n6 k h1 e
 ·rintro k (hk | hk | hk | hk)
  ·exact .inl (.inl hk)
  ·rcases nv k hk with h1 | h1
   ·exact .inr h1
   ·exact .inl (.inr (.inl h1))
  ·exact .inl (.inr (.inr (.inl hk)))
  ·exact .inl (.inr (.inr (.inr hk)))
theorem modify_out (ts:List (Int×Int×Int×Int)) (f:(Int×Int×Int×Int)->(Int×Int×Int×Int)):ts.modify ts.length f=ts:=by
 apply List.ext_getElem?
 intro i
 rw [List.getElem?_modify]
 by_cases e:ts.length=i
 ·subst e;simp
 ·simp [e]
theorem addThread_yes (x:Nat) (ty:TypeId) (cs:Array Value) (cl:Int×(Nat->Int)) (ts:List (Int×Int×Int×Int)) (n:Nat) (Q L:List (Int×Int×Int×Int)) (ln:Nat->List Nat) (vt:Value) (rv:Nat->Value) (vs:Value) (s:Int) (r:Nat) (w:World)
  (h:MAt w x ty cs cl ts n Q L ln vt rv vs) (hl:Lined ts ts.length ln) (h0:0<=s) (h1:s < n) (hr4:r < 4) (h6:ts.length < 6) :
  Calls Tryz.prog 153 #[.pointer (some ⟨x,0,none⟩),.agg #[.int .i64 s,.int .i64 r]] w fun e w'=>e=.returned .nilIface/\∃ cs' vt' rv',MAt w' x ty cs' cl (ts ++ [(s,(r:Int),(ts.length:Int),3)]) n Q L (comeLast ln r ts.length) vt' rv' vs/\Fr (MOwn x vt rv vs) w w'/\∀ k,MOwn x vt' rv' vs k->MOwn x vt rv vs k\/w.heap.size<=k:=by
 obtain ⟨i0,hi0,hz0,hz1,hz2⟩:=info_parts Tryz.infoN158
 have hc6:=(h.cell 6).trans h.c6
 have hc1:=(h.cell 1).trans h.c1
 have lx:=(Array.getElem?_eq_some_iff.1 h.blk).1
 obtain ⟨a,c,ev⟩:=h.sp.slice
 have hlen:(spRows n Q L).length=n:=by simp [spRows,spRowsM]
 rw [hlen] at ev
 obtain ⟨a2,c2,ev2⟩:=h.th.slice
 rw [List.length_map] at ev2
 subst ev ev2
 obtain ⟨m,hm⟩:∃ m,ts.length=m:=⟨_,rfl⟩
 rw [hm] at hc1 h h6 hl ⊢
 have HM:=hid (And.intro h (And.intro hl hm))
 clear h hl hlen hm
 have d1:decide (0<=s/\s < (n:Int))=true:=by simp;omega
 have d2:decide (0<=(r:Int)/\(r:Int) < 4)=true:=by simp;omega
 have hr4':(r:Int) < 4:=by omega
 go_enter Tryz.func153,Tryz.ntmps153
 go_wp2_with fail
 go_quiet ((go_at_call 149;exact Calls.quiet_of_same (below_any _ _ _)))
 go_wp2_with (first | (go_at_call 149;refine (below_any _ _ _).mono ?_;rintro e w1 ⟨rfl,rfl⟩) | (go_at_call 151;refine (noConfig_any _).mono ?_;rintro e w1 ⟨rfl,rfl⟩))
 have hbl:Below w.heap.size w ((w.alloc (.cells #[.int .i64 s,.int .i64 r] 34)).drewN nq):=below_drewN ((Below.refl _ w).alloc (Nat.le_refl _) _) _
 have hbx:((w.alloc (.cells #[.int .i64 s,.int .i64 r] 34)).drewN nq).heap[w.heap.size]? = some (.cells #[.int .i64 s,.int .i64 r] 34 (0,0)):=heap_alloc_new w _
 generalize (w.alloc (.cells #[.int .i64 s,.int .i64 r] 34)).drewN nq=w1 at hbl hbx ⊢
 have M1:=HM.out.1.below hbl
 have cx1:=(M1.cell 1).trans M1.c1
 have cb0:w1.cell? ⟨w.heap.size,0,none⟩=some (.int .i64 s):=(cell_of_row w1 _ 0 _ _ _ hbx).trans rfl
 have cb1:w1.cell? ⟨w.heap.size,1,none⟩=some (.int .i64 r):=(cell_of_row w1 _ 1 _ _ _ hbx).trans rfl
 have HM1:=hid (And.intro M1 (And.intro hbl hbx))
 have l1:w.heap.size < w1.heap.size:=(Array.getElem?_eq_some_iff.1 hbx).1
 clear M1 hbl hbx
 go_cut [] (fun wc=>∃ cs' rv',Hid (MAt wc x ty cs' cl ts n Q L (comeLast ln r m) (.slice a2 m c2) rv' (.slice a n c)/\wc.heap[w.heap.size]? = some (.cells #[.int .i64 s,.int .i64 r] 34 (0,0))/\Fr (MOwn x (.slice a2 m c2) rv (.slice a n c)) w wc/\∀ k,MOwn x (.slice a2 m c2) rv' (.slice a n c) k->MOwn x (.slice a2 m c2) rv (.slice a n c) k\/w.heap.size+1<=k))
 case first=>
  go_region_with (go_at_call 131;refine (comeLast_any x (2+r) (rv r) (ln r) m cs ty w1.drew HM1.out.1.blk (HM1.out.1.row r hr4) (HM1.out.1.li r hr4).drew ?_ ?_ (HM1.out.1.n2 r hr4)).mono ?_;exact ln_le HM.out.2.1 HM.out.2.2 (Nat.le_of_lt h6) r;exact HM.out.2.1.nodup r;rintro e w2 ⟨rfl,v2,H2⟩;replace H2:=hid H2)
  all_goals
   go_wp2
   go_meet
   case rel=>
    obtain ⟨b2,s2,f2,o2⟩:=H2.out
    have f2':Fr (fun k=>k=x\/(rv r).ownBlock=some k) w1 w2:=⟨f2.os,f2.tape,f2.output,f2.size,f2.block⟩
    have R:=HM1.out.1.setRow hr4 b2 s2 f2' o2 0
    have em:=modify_out ts (fun u=>(u.1,u.2.1,(0:Int),u.2.2.2))
    rw [HM.out.2.2] at em
    rw [em] at R
    have fm:∀ k,(k=x\/(rv r).ownBlock=some k)->MOwn x (.slice a2 m c2) rv (.slice a n c) k:=fun k e=>by
     rcases e with e | e
     ·exact .inl e
     ·exact .inr (.inr (.inl ⟨r,hr4,e⟩))
    refine ⟨_,_,R.1,(f2'.block _ l1 (fun e=>?_)).trans HM1.out.2.2,(Fr.of_below HM1.out.2.1 _).trans (f2'.mono (fun k _ e=>fm k e)),fun k hk=>?_⟩
    ·have:=HM.out.1.lt (fm _ e);omega
    ·rcases R.2 k hk with h | h
     ·exact .inl h
     ·exact .inr (by omega)
 case rest=>
 obtain ⟨cs',rv',HC⟩:=hcut
 have lxc:=(Array.getElem?_eq_some_iff.1 HC.out.1.blk).1
 have dx1:=(HC.out.1.cell 1).trans HC.out.1.c1
 have fx1:=frozen_of_row wc x 1 _ _ HC.out.1.blk
 have db0:wc.cell? ⟨w.heap.size,0,none⟩=some (.int .i64 s):=(cell_of_row wc _ 0 _ _ _ HC.out.2.1).trans rfl
 have db1:wc.cell? ⟨w.heap.size,1,none⟩=some (.int .i64 r):=(cell_of_row wc _ 1 _ _ _ HC.out.2.1).trans rfl
 have lbc:w.heap.size < wc.heap.size:=(Array.getElem?_eq_some_iff.1 HC.out.2.1).1
 go_wp2_with fail
 go_region_law (refine step_append_sl _ rfl (.tmp 37) (.tmp 41) 100 rfl 158 i0 _ 17 184 Tryz.underlying100 hi0 hz0 hz1 hz2 rfl (by decide) (.slice a2 m c2) (ts.map thRow) (by simp [Act.eval]) ((HC.out.1.th.alloc _).drew) ⟨wc.heap.size,0,none⟩ 1 1 [[.int .i64 s,.int .i64 r,.int .i64 3,.int .i64 1,.int .i64 0,.int .i64 (-1),.slice none 0 0,.int .i64 (-1),.int .i64 0,.slice none 0 0,.int .i64 0,.int .i64 0,.int .i64 0,.int .i64 0,.int .i64 0,.int .u64 0,.slice none 0 0]] (by simp [Act.eval]) rfl (by decide) (by simp) (fun j u h=>cell_news wc #[.int .i64 s,.int .i64 r,.int .i64 3,.int .i64 1,.int .i64 0,.int .i64 (-1),.slice none 0 0,.int .i64 (-1),.int .i64 0,.slice none 0 0,.int .i64 0,.int .i64 0,.int .i64 0,.int .i64 0,.int .i64 0,.int .u64 0,.slice none 0 0] 158 j u (by simpa using h)) (fun u hu=>by simp at hu;rcases hu with rfl | rfl | rfl | rfl | rfl | rfl | rfl | rfl | rfl | rfl | rfl | rfl | rfl | rfl | rfl | rfl | rfl <;> rfl) (by rw [List.length_map,HM.out.2.2];unfold maxLen;omega) (by rw [List.length_map,HM.out.2.2];omega) ?_;intro a4 c4 w4 G4;have hb4:Hid (w4.heap[x]? = some (.cells cs' ty (0,0))):=(G4.old (by simp;omega) HC.out.1.n1).trans ((((Fr.refl (fun _=>False) wc).alloc _).drew).block x lxc id |>.trans HC.out.1.blk);have hc4:w4.cell? ⟨x,1,none⟩=some (.slice a2 m c2):=(cell_of_row w4 x 1 _ _ _ hb4.out).trans HC.out.1.c1;have hf4:w4.frozen? ⟨x,1,none⟩=false:=frozen_of_row _ _ _ _ _ hb4.out)
 all_goals
  go_wp2
  go_ret
  have A:=HC.out.1.addTh (u:=(s,(r:Int),(m:Int),3)) (((Fr.refl (fun _=>False) wc).alloc _).drew) G4
  rw [List.length_map] at A
  refine ⟨rfl,_,_,_,A.1,HC.out.2.2.1.after A.2.1 (fun k hk e=>?_),fun k hk=>?_⟩
  ·rcases HC.out.2.2.2 k e with h | h
   ·exact h
   ·omega
  ·rcases A.2.2 k hk with h | h
   ·rcases HC.out.2.2.2 k h with h | h
    ·exact .inl h
    ·exact .inr (by omega)
   ·exact .inr (by omega)
open Go.RowKit
theorem addPass_no (x:Nat) (ty:TypeId) (cs:Array Value) (cl:Int×(Nat->Int)) (ts:List (Int×Int×Int×Int)) (n:Nat) (Q L:List (Int×Int×Int×Int)) (ln:Nat->List Nat) (vt:Value) (rv:Nat->Value) (vs:Value) (s j t r:Int) (w:World)
  (h:MAt w x ty cs cl ts n Q L ln vt rv vs) (hb:¬ (0<=s/\s < n/\0<=j/\j < 6/\0<=t/\t < (ts.length:Int)/\1<=r/\r<=3)) :
  Calls Tryz.prog 155 #[.pointer (some ⟨x,0,none⟩),.agg #[.int .i64 s,.int .i64 j,.int .i64 t,.int .i64 r]] w fun e w'=>e=.returned (.iface 160 (.agg #[.int .i64 1]))/\Below w.heap.size w w':=by
 have hc6:=(h.cell 6).trans h.c6
 have hc1:=(h.cell 1).trans h.c1
 have lx:=(Array.getElem?_eq_some_iff.1 h.blk).1
 obtain ⟨a,c,ev⟩:=h.sp.slice
 have hlen:(spRows n Q L).length=n:=by simp [spRows,spRowsM]
 rw [hlen] at ev
 obtain ⟨a2,c2,ev2⟩:=h.th.slice
 rw [List.length_map] at ev2
 subst ev ev2
 generalize ts.length=m at *
 clear h hlen
 by_cases h1:0<=s/\s < (n:Int)
 ·have d1:decide (0<=s/\s < (n:Int))=true:=by simpa using h1
  by_cases h2:0<=j/\j < 6
  ·have d2:decide (0<=j/\j < 6)=true:=by simpa using h2
   by_cases h3:0<=t/\t < (m:Int)
   ·have d3:decide (0<=t/\t < (m:Int))=true:=by simpa using h3
    have d4:decide (1<=r/\r<=3)=false:=by simp;omega
    clear hb h1 h2 h3
    go_enter Tryz.func155,Tryz.ntmps155
    go_wp2_with fail
    go_quiet ((first | (go_at_call 149;exact Calls.quiet_of_same (below_any _ _ _)) | (go_at_call 132;exact Calls.quiet_of_same (between_dec _ _ _ _))))
    go_wp2_with (first | (go_at_call 149;refine (below_any _ _ _).mono ?_;rintro e w1 ⟨rfl,rfl⟩) | (go_at_call 132;refine (between_dec _ _ _ _).mono ?_;rintro e w1 ⟨rfl,rfl⟩) | (go_at_call 151;refine (noConfig_any _).mono ?_;rintro e w1 ⟨rfl,rfl⟩))
    go_ret
    exact ⟨rfl,below_drewN ((Below.refl _ w).alloc (Nat.le_refl _) _) _⟩
   ·have d3:decide (0<=t/\t < (m:Int))=false:=by simpa using h3
    clear hb h1 h2 h3
    go_enter Tryz.func155,Tryz.ntmps155
    go_wp2_with fail
    go_quiet ((first | (go_at_call 149;exact Calls.quiet_of_same (below_any _ _ _)) | (go_at_call 132;exact Calls.quiet_of_same (between_dec _ _ _ _))))
    go_wp2_with (first | (go_at_call 149;refine (below_any _ _ _).mono ?_;rintro e w1 ⟨rfl,rfl⟩) | (go_at_call 132;refine (between_dec _ _ _ _).mono ?_;rintro e w1 ⟨rfl,rfl⟩) | (go_at_call 151;refine (noConfig_any _).mono ?_;rintro e w1 ⟨rfl,rfl⟩))
    go_ret
    exact ⟨rfl,below_drewN ((Below.refl _ w).alloc (Nat.le_refl _) _) _⟩
  ·have d2:decide (0<=j/\j < 6)=false:=by simpa using h2
   clear hb h1 h2
   go_enter Tryz.func155,Tryz.ntmps155
   go_wp2_with fail
   go_quiet ((first | (go_at_call 149;exact Calls.quiet_of_same (below_any _ _ _)) | (go_at_call 132;exact Calls.quiet_of_same (between_dec _ _ _ _))))
   go_wp2_with (first | (go_at_call 149;refine (below_any _ _ _).mono ?_;rintro e w1 ⟨rfl,rfl⟩) | (go_at_call 132;refine (between_dec _ _ _ _).mono ?_;rintro e w1 ⟨rfl,rfl⟩) | (go_at_call 151;refine (noConfig_any _).mono ?_;rintro e w1 ⟨rfl,rfl⟩))
   go_ret
   exact ⟨rfl,below_drewN ((Below.refl _ w).alloc (Nat.le_refl _) _) _⟩
 ·have d1:decide (0<=s/\s < (n:Int))=false:=by simpa using h1
  clear hb h1
  go_enter Tryz.func155,Tryz.ntmps155
  go_wp2_with fail
  go_quiet ((first | (go_at_call 149;exact Calls.quiet_of_same (below_any _ _ _)) | (go_at_call 132;exact Calls.quiet_of_same (between_dec _ _ _ _))))
  go_wp2_with (first | (go_at_call 149;refine (below_any _ _ _).mono ?_;rintro e w1 ⟨rfl,rfl⟩) | (go_at_call 132;refine (between_dec _ _ _ _).mono ?_;rintro e w1 ⟨rfl,rfl⟩) | (go_at_call 151;refine (noConfig_any _).mono ?_;rintro e w1 ⟨rfl,rfl⟩))
  go_ret
  exact ⟨rfl,below_drewN ((Below.refl _ w).alloc (Nat.le_refl _) _) _⟩
theorem addPass_two (x:Nat) (ty:TypeId) (cs:Array Value) (cl:Int×(Nat->Int)) (ts:List (Int×Int×Int×Int)) (n:Nat) (Q L:List (Int×Int×Int×Int)) (ln:Nat->List Nat) (vt:Value) (rv:Nat->Value) (vs:Value) (s j:Nat) (t r:Int) (w:World)
  (h:MAt w x ty cs cl ts n Q L ln vt rv vs) (hs:s < n) (hj:j < 6) (ht0:0<=t) (ht1:t < (ts.length:Int)) (hr0:1<=r) (hr1:r<=3) (hn:pb (findQ Q s j)≠0) :
  Calls Tryz.prog 155 #[.pointer (some ⟨x,0,none⟩),.agg #[.int .i64 s,.int .i64 j,.int .i64 t,.int .i64 r]] w fun e w'=>e=.returned (.iface 160 (.agg #[.int .i64 1]))/\Below w.heap.size w w':=by
 have hc6:=(h.cell 6).trans h.c6
 have hc1:=(h.cell 1).trans h.c1
 have lx:=(Array.getElem?_eq_some_iff.1 h.blk).1
 obtain ⟨a,c,ev⟩:=h.sp.slice
 have hlen:(spRows n Q L).length=n:=by simp [spRows,spRowsM]
 rw [hlen] at ev
 obtain ⟨a2,c2,ev2⟩:=h.th.slice
 rw [List.length_map] at ev2
 subst ev ev2
 obtain ⟨g,ea,hx⟩:=h.sp.is_some (by omega)
 clear hx
 subst ea
 have K:=sp_cells h.sp hs hj
 have kp:=K.1
 have kq:=K.2.1
 have lg:g < w.heap.size:=h.sp.lt rfl
 have d1:decide (0<=(s:Int)/\(s:Int) < (n:Int))=true:=by simp;omega
 have d2:decide (0<=(j:Int)/\(j:Int) < 6)=true:=by simp;omega
 have d3:decide (0<=t/\t < (ts.length:Int))=true:=by simp;omega
 have d4:decide (1<=r/\r<=3)=true:=by simp;omega
 have sn:(s:Int) < (n:Int):=by omega
 have j6:(j:Int) < 6:=by omega
 generalize pb (findQ Q s j)=B at *
 generalize pa (findQ Q s j)=A at *
 generalize ts.length=m at *
 have hB:(B != 0)=true:=by simpa using hn
 clear h hlen K hn
 go_enter Tryz.func155,Tryz.ntmps155
 go_wp2_with fail
 go_quiet ((first | (go_at_call 149;exact Calls.quiet_of_same (below_any _ _ _)) | (go_at_call 132;exact Calls.quiet_of_same (between_dec _ _ _ _))))
 go_wp2_with (first | (go_at_call 149;refine (below_any _ _ _).mono ?_;rintro e w1 ⟨rfl,rfl⟩) | (go_at_call 132;refine (between_dec _ _ _ _).mono ?_;rintro e w1 ⟨rfl,rfl⟩) | (go_at_call 151;refine (noConfig_any _).mono ?_;rintro e w1 ⟨rfl,rfl⟩))
 go_quiet (fail)
 go_wp2_with (first | (go_at_call 149;refine (below_any _ _ _).mono ?_;rintro e w1 ⟨rfl,rfl⟩) | (go_at_call 132;refine (between_dec _ _ _ _).mono ?_;rintro e w1 ⟨rfl,rfl⟩) | (go_at_call 151;refine (noConfig_any _).mono ?_;rintro e w1 ⟨rfl,rfl⟩))
 go_ret
 exact ⟨rfl,below_drewN ((Below.refl _ w).alloc (Nat.le_refl _) _) _⟩
theorem addPass_yes (x:Nat) (ty:TypeId) (cs:Array Value) (cl:Int×(Nat->Int)) (ts:List (Int×Int×Int×Int)) (n:Nat) (Q L:List (Int×Int×Int×Int)) (ln:Nat->List Nat) (vt:Value) (rv:Nat->Value) (vs:Value) (s j:Nat) (t r:Int) (w:World)
  (h:MAt w x ty cs cl ts n Q L ln vt rv vs) (hs:s < n) (hj:j < 6) (ht0:0<=t) (ht1:t < (ts.length:Int)) (hr0:1<=r) (hr1:r<=3) (hn:findQ Q s j=none) :
  Calls Tryz.prog 155 #[.pointer (some ⟨x,0,none⟩),.agg #[.int .i64 s,.int .i64 j,.int .i64 t,.int .i64 r]] w fun e w'=>e=.returned .nilIface/\MAt w' x ty cs cl ts n (Q ++ [((s:Int),(j:Int),t,r)]) L ln vt rv vs/\Fr (MOwn x vt rv vs) w w':=by
 have hc6:=(h.cell 6).trans h.c6
 have hc1:=(h.cell 1).trans h.c1
 have lx:=(Array.getElem?_eq_some_iff.1 h.blk).1
 obtain ⟨a,c,ev⟩:=h.sp.slice
 have hlen:(spRows n Q L).length=n:=by simp [spRows,spRowsM]
 rw [hlen] at ev
 obtain ⟨a2,c2,ev2⟩:=h.th.slice
 rw [List.length_map] at ev2
 subst ev ev2
 obtain ⟨g,ea,hx⟩:=h.sp.is_some (by omega)
 clear hx
 subst ea
 have K:=sp_cells h.sp hs hj
 have kp:=K.1
 have kq:=K.2.1
 have lg:g < w.heap.size:=h.sp.lt rfl
 have d1:decide (0<=(s:Int)/\(s:Int) < (n:Int))=true:=by simp;omega
 have d2:decide (0<=(j:Int)/\(j:Int) < 6)=true:=by simp;omega
 have d3:decide (0<=t/\t < (ts.length:Int))=true:=by simp;omega
 have d4:decide (1<=r/\r<=3)=true:=by simp;omega
 have sn:(s:Int) < (n:Int):=by omega
 have j6:(j:Int) < 6:=by omega
 rw [hn] at kp kq
 simp only [pa,pb] at kp kq
 have fp:=h.sp.fro (s*30+j*2)
 have fq:=h.sp.fro (s*30+j*2+1)
 have RW:=rows_passes n Q L s j hs hj t r hn
 generalize ts.length=m at *
 have HM:=hid (And.intro h RW)
 clear h hlen K hn RW
 go_enter Tryz.func155,Tryz.ntmps155
 go_wp2_with fail
 go_quiet ((first | (go_at_call 149;exact Calls.quiet_of_same (below_any _ _ _)) | (go_at_call 132;exact Calls.quiet_of_same (between_dec _ _ _ _))))
 go_wp2_with (first | (go_at_call 149;refine (below_any _ _ _).mono ?_;rintro e w1 ⟨rfl,rfl⟩) | (go_at_call 132;refine (between_dec _ _ _ _).mono ?_;rintro e w1 ⟨rfl,rfl⟩) | (go_at_call 151;refine (noConfig_any _).mono ?_;rintro e w1 ⟨rfl,rfl⟩))
 go_quiet (fail)
 go_wp2_with (first | (go_at_call 149;refine (below_any _ _ _).mono ?_;rintro e w1 ⟨rfl,rfl⟩) | (go_at_call 132;refine (between_dec _ _ _ _).mono ?_;rintro e w1 ⟨rfl,rfl⟩) | (go_at_call 151;refine (noConfig_any _).mono ?_;rintro e w1 ⟨rfl,rfl⟩))
 go_ret
 have S:=fun q=>(HM.out.1.below (below_drewN ((Below.refl _ w).alloc (Nat.le_refl _) (.cells #[.int .i64 s,.int .i64 j,.int .i64 t,.int .i64 r] 55)) q)).setSp hs [.int .i64 t,.int .i64 r] (by simp;omega) HM.out.2
 refine ⟨rfl,(S _).1,(Fr.of_below (below_drewN ((Below.refl _ w).alloc (Nat.le_refl _) _) _) _).trans ((S _).2.mono (fun k _ e=>.inr (.inr (.inr (by rw [e];rfl)))))⟩
theorem addLeaf_no (x:Nat) (ty:TypeId) (cs:Array Value) (cl:Int×(Nat->Int)) (ts:List (Int×Int×Int×Int)) (n:Nat) (Q L:List (Int×Int×Int×Int)) (ln:Nat->List Nat) (vt:Value) (rv:Nat->Value) (vs:Value) (s j t r:Int) (w:World)
  (h:MAt w x ty cs cl ts n Q L ln vt rv vs) (hb:¬ (0<=s/\s < n/\0<=j/\j < 6/\0<=t/\t < 8/\1<=r/\r<=3)) :
  Calls Tryz.prog 157 #[.pointer (some ⟨x,0,none⟩),.agg #[.int .i64 s,.int .i64 j,.int .i64 t,.int .i64 r]] w fun e w'=>e=.returned (.iface 160 (.agg #[.int .i64 1]))/\Below w.heap.size w w':=by
 have hc6:=(h.cell 6).trans h.c6
 have hc1:=(h.cell 1).trans h.c1
 have lx:=(Array.getElem?_eq_some_iff.1 h.blk).1
 obtain ⟨a,c,ev⟩:=h.sp.slice
 have hlen:(spRows n Q L).length=n:=by simp [spRows,spRowsM]
 rw [hlen] at ev
 obtain ⟨a2,c2,ev2⟩:=h.th.slice
 rw [List.length_map] at ev2
 subst ev ev2
 skip
 clear h hlen
 by_cases h1:0<=s/\s < (n:Int)
 ·have d1:decide (0<=s/\s < (n:Int))=true:=by simpa using h1
  by_cases h2:0<=j/\j < 6
  ·have d2:decide (0<=j/\j < 6)=true:=by simpa using h2
   by_cases h3:0<=t/\t < 8
   ·have d3:decide (0<=t/\t < 8)=true:=by simpa using h3
    have d4:decide (1<=r/\r<=3)=false:=by simp;omega
    clear hb h1 h2 h3
    go_enter Tryz.func157,Tryz.ntmps157
    go_wp2_with fail
    go_quiet ((first | (go_at_call 149;exact Calls.quiet_of_same (below_any _ _ _)) | (go_at_call 132;exact Calls.quiet_of_same (between_dec _ _ _ _))))
    go_wp2_with (first | (go_at_call 149;refine (below_any _ _ _).mono ?_;rintro e w1 ⟨rfl,rfl⟩) | (go_at_call 132;refine (between_dec _ _ _ _).mono ?_;rintro e w1 ⟨rfl,rfl⟩) | (go_at_call 151;refine (noConfig_any _).mono ?_;rintro e w1 ⟨rfl,rfl⟩))
    go_ret
    exact ⟨rfl,below_drewN ((Below.refl _ w).alloc (Nat.le_refl _) _) _⟩
   ·have d3:decide (0<=t/\t < 8)=false:=by simpa using h3
    clear hb h1 h2 h3
    go_enter Tryz.func157,Tryz.ntmps157
    go_wp2_with fail
    go_quiet ((first | (go_at_call 149;exact Calls.quiet_of_same (below_any _ _ _)) | (go_at_call 132;exact Calls.quiet_of_same (between_dec _ _ _ _))))
    go_wp2_with (first | (go_at_call 149;refine (below_any _ _ _).mono ?_;rintro e w1 ⟨rfl,rfl⟩) | (go_at_call 132;refine (between_dec _ _ _ _).mono ?_;rintro e w1 ⟨rfl,rfl⟩) | (go_at_call 151;refine (noConfig_any _).mono ?_;rintro e w1 ⟨rfl,rfl⟩))
    go_ret
    exact ⟨rfl,below_drewN ((Below.refl _ w).alloc (Nat.le_refl _) _) _⟩
  ·have d2:decide (0<=j/\j < 6)=false:=by simpa using h2
   clear hb h1 h2
   go_enter Tryz.func157,Tryz.ntmps157
   go_wp2_with fail
   go_quiet ((first | (go_at_call 149;exact Calls.quiet_of_same (below_any _ _ _)) | (go_at_call 132;exact Calls.quiet_of_same (between_dec _ _ _ _))))
   go_wp2_with (first | (go_at_call 149;refine (below_any _ _ _).mono ?_;rintro e w1 ⟨rfl,rfl⟩) | (go_at_call 132;refine (between_dec _ _ _ _).mono ?_;rintro e w1 ⟨rfl,rfl⟩) | (go_at_call 151;refine (noConfig_any _).mono ?_;rintro e w1 ⟨rfl,rfl⟩))
   go_ret
   exact ⟨rfl,below_drewN ((Below.refl _ w).alloc (Nat.le_refl _) _) _⟩
 ·have d1:decide (0<=s/\s < (n:Int))=false:=by simpa using h1
  clear hb h1
  go_enter Tryz.func157,Tryz.ntmps157
  go_wp2_with fail
  go_quiet ((first | (go_at_call 149;exact Calls.quiet_of_same (below_any _ _ _)) | (go_at_call 132;exact Calls.quiet_of_same (between_dec _ _ _ _))))
  go_wp2_with (first | (go_at_call 149;refine (below_any _ _ _).mono ?_;rintro e w1 ⟨rfl,rfl⟩) | (go_at_call 132;refine (between_dec _ _ _ _).mono ?_;rintro e w1 ⟨rfl,rfl⟩) | (go_at_call 151;refine (noConfig_any _).mono ?_;rintro e w1 ⟨rfl,rfl⟩))
  go_ret
  exact ⟨rfl,below_drewN ((Below.refl _ w).alloc (Nat.le_refl _) _) _⟩
theorem addLeaf_two (x:Nat) (ty:TypeId) (cs:Array Value) (cl:Int×(Nat->Int)) (ts:List (Int×Int×Int×Int)) (n:Nat) (Q L:List (Int×Int×Int×Int)) (ln:Nat->List Nat) (vt:Value) (rv:Nat->Value) (vs:Value) (s j:Nat) (t r:Int) (w:World)
  (h:MAt w x ty cs cl ts n Q L ln vt rv vs) (hs:s < n) (hj:j < 6) (ht0:0<=t) (ht1:t < 8) (hr0:1<=r) (hr1:r<=3) (hn:pb (findQ L s j)≠0) :
  Calls Tryz.prog 157 #[.pointer (some ⟨x,0,none⟩),.agg #[.int .i64 s,.int .i64 j,.int .i64 t,.int .i64 r]] w fun e w'=>e=.returned (.iface 160 (.agg #[.int .i64 1]))/\Below w.heap.size w w':=by
 have hc6:=(h.cell 6).trans h.c6
 have hc1:=(h.cell 1).trans h.c1
 have lx:=(Array.getElem?_eq_some_iff.1 h.blk).1
 obtain ⟨a,c,ev⟩:=h.sp.slice
 have hlen:(spRows n Q L).length=n:=by simp [spRows,spRowsM]
 rw [hlen] at ev
 obtain ⟨a2,c2,ev2⟩:=h.th.slice
 rw [List.length_map] at ev2
 subst ev ev2
 obtain ⟨g,ea,hx⟩:=h.sp.is_some (by omega)
 clear hx
 subst ea
 have K:=sp_cells h.sp hs hj
 have kp:=K.2.2.1
 have kq:=K.2.2.2.1
 have ku:=K.2.2.2.2
 have lg:g < w.heap.size:=h.sp.lt rfl
 have d1:decide (0<=(s:Int)/\(s:Int) < (n:Int))=true:=by simp;omega
 have d2:decide (0<=(j:Int)/\(j:Int) < 6)=true:=by simp;omega
 have d3:decide (0<=t/\t < 8)=true:=by simp;omega
 have d4:decide (1<=r/\r<=3)=true:=by simp;omega
 have sn:(s:Int) < (n:Int):=by omega
 have j6:(j:Int) < 6:=by omega
 generalize pb (findQ L s j)=B at *
 generalize pa (findQ L s j)=A at *
 skip
 have hB:(B != 0)=true:=by simpa using hn
 clear h hlen K hn
 go_enter Tryz.func157,Tryz.ntmps157
 go_wp2_with fail
 go_quiet ((first | (go_at_call 149;exact Calls.quiet_of_same (below_any _ _ _)) | (go_at_call 132;exact Calls.quiet_of_same (between_dec _ _ _ _))))
 go_wp2_with (first | (go_at_call 149;refine (below_any _ _ _).mono ?_;rintro e w1 ⟨rfl,rfl⟩) | (go_at_call 132;refine (between_dec _ _ _ _).mono ?_;rintro e w1 ⟨rfl,rfl⟩) | (go_at_call 151;refine (noConfig_any _).mono ?_;rintro e w1 ⟨rfl,rfl⟩))
 go_quiet (fail)
 go_wp2_with (first | (go_at_call 149;refine (below_any _ _ _).mono ?_;rintro e w1 ⟨rfl,rfl⟩) | (go_at_call 132;refine (between_dec _ _ _ _).mono ?_;rintro e w1 ⟨rfl,rfl⟩) | (go_at_call 151;refine (noConfig_any _).mono ?_;rintro e w1 ⟨rfl,rfl⟩))
 go_ret
 exact ⟨rfl,below_drewN ((Below.refl _ w).alloc (Nat.le_refl _) _) _⟩
theorem addLeaf_yes (x:Nat) (ty:TypeId) (cs:Array Value) (cl:Int×(Nat->Int)) (ts:List (Int×Int×Int×Int)) (n:Nat) (Q L:List (Int×Int×Int×Int)) (ln:Nat->List Nat) (vt:Value) (rv:Nat->Value) (vs:Value) (s j:Nat) (t r:Int) (w:World)
  (h:MAt w x ty cs cl ts n Q L ln vt rv vs) (hs:s < n) (hj:j < 6) (ht0:0<=t) (ht1:t < 8) (hr0:1<=r) (hr1:r<=3) (hn:findQ L s j=none) :
  Calls Tryz.prog 157 #[.pointer (some ⟨x,0,none⟩),.agg #[.int .i64 s,.int .i64 j,.int .i64 t,.int .i64 r]] w fun e w'=>e=.returned .nilIface/\MAt w' x ty cs cl ts n Q (L ++ [((s:Int),(j:Int),t,r)]) ln vt rv vs/\Fr (MOwn x vt rv vs) w w':=by
 have hc6:=(h.cell 6).trans h.c6
 have hc1:=(h.cell 1).trans h.c1
 have lx:=(Array.getElem?_eq_some_iff.1 h.blk).1
 obtain ⟨a,c,ev⟩:=h.sp.slice
 have hlen:(spRows n Q L).length=n:=by simp [spRows,spRowsM]
 rw [hlen] at ev
 obtain ⟨a2,c2,ev2⟩:=h.th.slice
 rw [List.length_map] at ev2
 subst ev ev2
 obtain ⟨g,ea,hx⟩:=h.sp.is_some (by omega)
 clear hx
 subst ea
 have K:=sp_cells h.sp hs hj
 have kp:=K.2.2.1
 have kq:=K.2.2.2.1
 have ku:=K.2.2.2.2
 have lg:g < w.heap.size:=h.sp.lt rfl
 have d1:decide (0<=(s:Int)/\(s:Int) < (n:Int))=true:=by simp;omega
 have d2:decide (0<=(j:Int)/\(j:Int) < 6)=true:=by simp;omega
 have d3:decide (0<=t/\t < 8)=true:=by simp;omega
 have d4:decide (1<=r/\r<=3)=true:=by simp;omega
 have sn:(s:Int) < (n:Int):=by omega
 have j6:(j:Int) < 6:=by omega
 rw [hn] at kp kq
 simp only [pa,pb] at kp kq
 have fp:=h.sp.fro (s*30+12+j*3)
 have fq:=h.sp.fro (s*30+12+j*3+1)
 have fu:=h.sp.fro (s*30+12+j*3+2)
 have RW:=rows_leaves n Q L s j hs hj t r hn
 skip
 have HM:=hid (And.intro h RW)
 clear h hlen K hn RW
 go_enter Tryz.func157,Tryz.ntmps157
 go_wp2_with fail
 go_quiet ((first | (go_at_call 149;exact Calls.quiet_of_same (below_any _ _ _)) | (go_at_call 132;exact Calls.quiet_of_same (between_dec _ _ _ _))))
 go_wp2_with (first | (go_at_call 149;refine (below_any _ _ _).mono ?_;rintro e w1 ⟨rfl,rfl⟩) | (go_at_call 132;refine (between_dec _ _ _ _).mono ?_;rintro e w1 ⟨rfl,rfl⟩) | (go_at_call 151;refine (noConfig_any _).mono ?_;rintro e w1 ⟨rfl,rfl⟩))
 go_quiet (fail)
 go_wp2_with (first | (go_at_call 149;refine (below_any _ _ _).mono ?_;rintro e w1 ⟨rfl,rfl⟩) | (go_at_call 132;refine (between_dec _ _ _ _).mono ?_;rintro e w1 ⟨rfl,rfl⟩) | (go_at_call 151;refine (noConfig_any _).mono ?_;rintro e w1 ⟨rfl,rfl⟩))
 go_ret
 have S:=fun q=>(HM.out.1.below (below_drewN ((Below.refl _ w).alloc (Nat.le_refl _) (.cells #[.int .i64 s,.int .i64 j,.int .i64 t,.int .i64 r] 67)) q)).setSp hs [.int .i64 t,.int .i64 r,.pointer none] (by simp;omega) HM.out.2
 simp only [<- Nat.add_assoc] at S
 refine ⟨rfl,(S _).1,(Fr.of_below (below_drewN ((Below.refl _ w).alloc (Nat.le_refl _) _) _) _).trans ((S _).2.mono (fun k _ e=>.inr (.inr (.inr (by rw [e];rfl)))))⟩
open Go.RowKit
theorem run_concat (s t:ByteArray) (w:World) (h:s.size+t.size<=10000):(binOp .add 9 (.string s) (.string t)).run Tryz.prog w=.ok (.string (s ++ t)) w:=by
 have h2:(s.size:Int)+(t.size:Int)<=9223372036854775807:=by omega
 simp [binOp,Op.stringOp]
 exact h2
theorem eachT_any (x:Nat) (aT:Option Addr) (cT:Nat) (T:List (Int×Int)) (m:Nat) (n b:Nat) (cs:Array Value) (vt:Value) (rv:Nat->Value) (vs:Value) (w:World)
  (h:MAt w x 109 cs c00 [] n [] [] (fun _=>[]) vt rv vs) (iT:Inl w 2 (.slice aT m cT) (T.map tRow)) (hm:T.length=m) (h6:m<=6) (hb:b<=m) (ok:∀ (i:Nat) p,i < b->T[i]? = some p->okT n p) (bad:∀ p,T[b]? = some p->¬ okT n p) (hnb:∀ k,inBlock (.slice aT m cT)=some k->¬ MOwn x vt rv vs k) :
  Calls Tryz.prog 152 #[.string ⟨#[116,104,114,101,97,100]⟩,.slice aT m cT,.func (.func 153) #[.pointer (some ⟨x,0,none⟩)] #[]] w fun e w'=>(b=m/\e=.returned .nilIface/\∃ cs' ln' vt' rv',MAt w' x 109 cs' c00 (born 0 T) n [] [] ln' vt' rv' vs/\Lined (born 0 T) T.length ln'/\Fr (MOwn x vt rv vs) w w'/\∀ k,MOwn x vt' rv' vs k->MOwn x vt rv vs k\/w.heap.size<=k)\/(b < m/\∃ s,e=.returned (.iface 166 (.agg #[.string s,.iface 160 (.agg #[.int .i64 1])]))/\Fr (MOwn x vt rv vs) w w'):=by
 have HI:=hid (And.intro h (And.intro iT (And.intro hm (And.intro ok (And.intro bad hnb)))))
 clear h iT hm ok bad hnb
 go_enter Tryz.func152,Tryz.ntmps152
 go_wp2
 go_loopw [12] (fun i wr=>∃ (k:Nat) (cs':Array Value) (ln':Nat->List Nat) (vt':Value) (rv':Nat->Value),k<=b/\i=.int .i64 k/\Hid (MAt wr x 109 cs' c00 (born 0 (T.take k)) n [] [] ln' vt' rv' vs/\Lined (born 0 (T.take k)) k ln'/\Fr (MOwn x vt rv vs) w wr/\∀ k,MOwn x vt' rv' vs k->MOwn x vt rv vs k\/w.heap.size<=k)) (fun i _=>b-(intOf i).toNat)
 case atStart=>exact ⟨0,cs,fun _=>[],vt,rv,Nat.zero_le _,rfl,HI.out.1,Lined.none,Fr.refl _ _,fun _ h=>.inl h⟩
 case round=>
  obtain ⟨k,cs',ln',vt',rv',hk,rfl,HC⟩:=hrel
  by_cases hkm:k < m
  ·obtain ⟨p,hp⟩:∃ p,T[k]? = some p:=⟨_,List.getElem?_eq_getElem (by have:=HI.out.2.2.1;omega)⟩
   obtain ⟨b1,o1,ea,r0⟩:=HI.out.2.1.row (k:=k) (r:=[.int .i64 p.1,.int .i64 p.2]) (by rw [List.getElem?_map,hp];rfl)
   subst ea
   have lb0:b1 < w.heap.size:=block_lt_of_cell (r0 0 (.int .i64 p.1) rfl)
   have hib:inBlock (.slice (some ⟨b1,o1,none⟩) m cT)=some b1:=by
    obtain ⟨m',rfl⟩:∃ m',m=m'+1:=⟨m-1,by omega⟩
    rfl
   have r1:=rangeAt_cells r0 (HC.out.2.2.1.block b1 lb0 (HI.out.2.2.2.2.2 b1 hib))
   have g0:=r1 0 (.int .i64 p.1) rfl
   have g1:=r1 1 (.int .i64 p.2) rfl
   simp only [Nat.add_zero] at g0
   have lb:=block_lt_of_cell g0
   have hbl:(born 0 (T.take k)).length=k:=by rw [born_length];simp;have:=HI.out.2.2.1;omega
   have HP:=hid hp
   have hkm':(k:Int) < (m:Int):=by omega
   clear r1 r0 hp hib
   have HA:=fun X=>HC.out.1.below ((Below.refl _ wr).alloc (Nat.le_refl _) X)
   by_cases hkb:k < b
   ·have o:=HI.out.2.2.2.1 k p hkb HP.out
    obtain ⟨r,hr⟩:=Int.eq_ofNat_of_zero_le o.2.2.1
    have A:=addThread_yes x 109 cs' c00 _ n [] [] ln' vt' rv' vs p.1 r _ (HA (.cells #[.int .i64 p.1,.int .i64 p.2] 34)) (by rw [hbl];exact HC.out.2.1) o.1 (by have:=o.2.1;omega) (by have:=o.2.2.2;omega) (by rw [hbl];omega)
    rw [hbl,<- hr] at A
    have HX:=hid (And.intro A (And.intro hbl hr))
    clear A hbl hr HA o
    go_wp2_with (go_at_call 153;refine HX.out.1.mono ?_;rintro e w2 ⟨rfl,H2⟩;replace H2:=hid H2)
    obtain ⟨cs2,vt2,rv2,m2,f2,o2⟩:=H2.out
    have hl2:=(show Lined (born 0 (T.take k)) ((born 0 (T.take k)).length:Int) ln' by rw [HX.out.2.1];exact HC.out.2.1).add p.1 r (by have:=HI.out.2.2.2.1 k p hkb HP.out;have:=this.2.2.2;have:=HX.out.2.2;omega) 3
    rw [HX.out.2.1,<- HX.out.2.2] at hl2
    have eb:=born_step HP.out
    have hsz:(wr.alloc (.cells #[.int .i64 p.1,.int .i64 p.2] 34)).heap.size=wr.heap.size+1:=by simp
    have fz:=HC.out.2.2.1.size
    refine ⟨⟨k+1,cs2,comeLast ln' r k,vt2,rv2,by omega,by go_num,?_⟩,by simp [intOf];omega⟩
    rw [eb]
    refine ⟨m2,by rw [show ((k+1:Nat):Int)=(k:Int)+1 by omega];exact hl2,(HC.out.2.2.1.alloc _).after f2 (fun i hi e=>?_),fun i hi=>?_⟩
    ·rcases HC.out.2.2.2 i e with h | h
     ·exact h
     ·omega
    ·rcases o2 i hi with h | h
     ·exact HC.out.2.2.2 i h
     ·exact .inr (by omega)
   ·have hkb':k=b:=by omega
    subst hkb'
    have A:=addThread_no x 109 cs' c00 _ n [] [] ln' vt' rv' vs p.1 p.2 _ (HA (.cells #[.int .i64 p.1,.int .i64 p.2] 34)) (fun h=>HI.out.2.2.2.2.1 p HP.out ⟨h.1,by have:=h.2.1;omega,h.2.2.1,by have:=h.2.2.2;omega⟩)
    have HX:=hid A
    clear A hbl HA
    have hc1:=fun w=>run_concat ⟨#[116,104,114,101,97,100]⟩ ⟨#[32]⟩ w (by decide)
    go_wp2_with (first
     | (go_at_call 153;refine HX.out.mono ?_;rintro e w2 ⟨rfl,H2⟩;replace H2:=hid H2)
     | (go_at_call 170;refine (itoa_any k (by omega) _).mono ?_;rintro e w3 ⟨s,rfl,hs,rfl⟩;have hc2:=fun w=>run_concat (⟨#[116,104,114,101,97,100]⟩ ++ ⟨#[32]⟩) s w (by rw [ByteArray.size_append];have h1:ByteArray.size ⟨#[116,104,114,101,97,100]⟩=6:=rfl;have h2:ByteArray.size ⟨#[32]⟩=1:=rfl;omega)))
    go_ret
    refine .inr ⟨hkm,_,rfl,(HC.out.2.2.1.alloc _).after (Fr.of_below H2.out (fun _=>False)) (fun _ _ h=>h.elim)⟩
  ·have hkm':k=m:=by omega
   have hbm:b=m:=by omega
   subst hkm'
   have ek:T.take k=T:=List.take_of_length_le (by have:=HI.out.2.2.1;omega)
   go_wp2
   go_ret
   have H:=HC.out
   rw [ek] at H
   exact .inl ⟨hbm,rfl,cs',ln',vt',rv',H.1,by rw [HI.out.2.2.1];exact H.2.1,H.2.2.1,H.2.2.2⟩
open Go.RowKit
def good (n h:Int) (Q:List (Int×Int×Int×Int)) (i:Nat) (p:Int×Int×Int×Int):Prop:=okQ n h p/\∀ (j:Nat) q,j < i->Q[j]? = some q->¬ (q.1=p.1/\q.2.1=p.2.1)
theorem find_memN {L:List (Int×Int×Int×Int)}{s n:Int}{p:Int×Int×Int×Int}(h:findQ L s n=some p):(∃ i:Nat,L[i]? = some p)/\p.1=s/\p.2.1=n:=by
 unfold findQ at h
 have h1:=List.mem_of_find?_eq_some h
 have h2:=List.find?_some h
 simp at h2
 exact ⟨List.mem_iff_getElem?.1 h1,h2⟩
theorem find_none {Q:List (Int×Int×Int×Int)}{k:Nat}{s n:Int}(h:∀ (j:Nat) q,j < k->Q[j]? = some q->¬ (q.1=s/\q.2.1=n)):findQ (Q.take k) s n=none:=by
 unfold findQ
 rw [List.find?_eq_none]
 intro q hq
 obtain ⟨j,hj⟩:=List.mem_iff_getElem?.1 hq
 rw [List.getElem?_take] at hj
 split at hj
 ·have:=h j q (by assumption) hj
  simpa using this
 ·simp at hj
theorem find_some {Q:List (Int×Int×Int×Int)}{k:Nat}{s n:Int}(h:¬ ∀ (j:Nat) q,j < k->Q[j]? = some q->¬ (q.1=s/\q.2.1=n)) (hr:∀ (j:Nat) q,j < k->Q[j]? = some q->1<=q.2.2.2):pb (findQ (Q.take k) s n)≠0:=by
 rcases hf:findQ (Q.take k) s n with _ | p
 ·exfalso
  apply h
  intro j q hj hq he
  unfold findQ at hf
  rw [List.find?_eq_none] at hf
  have hm:q∈Q.take k:=List.mem_iff_getElem?.2 ⟨j,by rw [List.getElem?_take,if_pos hj];exact hq⟩
  have:=hf q hm
  simp [he.1,he.2] at this
 ·obtain ⟨⟨i,hi⟩,_⟩:=find_memN hf
  rw [List.getElem?_take] at hi
  split at hi
  ·have:=hr i p (by assumption) hi
   simp only [pb];omega
  ·simp at hi
theorem pigeon {n h:Int}{Q:List (Int×Int×Int×Int)}{b:Nat}(hb:b<=Q.length) (hn:n<=3) (hg:∀ (i:Nat) p,i < b->Q[i]? = some p->good n h Q i p):b<=18:=by
 have hlen:((Q.take b).map (fun p=>(p.1*6+p.2.1).toNat)).length=b:=by simp;omega
 rw [<- hlen]
 apply nodup_lt 18
 ·rw [List.nodup_iff_pairwise_ne,List.pairwise_iff_getElem]
  intro i j hi hj hij
  simp only [List.length_map,List.length_take] at hi hj
  simp only [List.getElem_map,List.getElem_take]
  have ei:Q[i]? = some (Q[i]'(by omega)):=List.getElem?_eq_getElem (by omega)
  have ej:Q[j]? = some (Q[j]'(by omega)):=List.getElem?_eq_getElem (by omega)
  have gi:=hg i _ (by omega) ei
  have gj:=hg j _ (by omega) ej
  have ne:=gj.2 i _ hij ei
  obtain ⟨a1,a2,a3,a4,_⟩:=gi.1
  obtain ⟨b1,b2,b3,b4,_⟩:=gj.1
  intro e
  apply ne
  generalize Q[i]=p at *
  generalize Q[j]=q at *
  omega
 ·intro t ht
  obtain ⟨p,hp,rfl⟩:=List.mem_map.1 ht
  obtain ⟨i,hi⟩:=List.mem_iff_getElem?.1 hp
  rw [List.getElem?_take] at hi
  split at hi
  ·obtain ⟨a1,a2,a3,a4,_⟩:=(hg i p (by assumption) hi).1
   omega
  ·simp at hi
theorem take_step {Q:List (Int×Int×Int×Int)}{k:Nat}{p:Int×Int×Int×Int}(h:Q[k]? = some p):Q.take (k+1)=Q.take k ++ [p]:=by
 obtain ⟨hl,e⟩:=List.getElem?_eq_some_iff.1 h
 rw [List.take_succ_eq_append_getElem hl,e]
theorem eachP_any (x:Nat) (aT:Option Addr) (cT:Nat) (Q:List (Int×Int×Int×Int)) (m:Nat) (n b:Nat) (ts:List (Int×Int×Int×Int)) (ln:Nat->List Nat) (cs:Array Value) (vt:Value) (rv:Nat->Value) (vs:Value) (w:World)
  (h:MAt w x 109 cs c00 ts n [] [] ln vt rv vs) (iT:Inl w 4 (.slice aT m cT) (Q.map qRow)) (hm:Q.length=m) (hmm:m<=9223372036854775807) (hb:b<=m) (hn3:n<=3) (ok:∀ (i:Nat) p,i < b->Q[i]? = some p->good n ((ts.length:Int)-1) Q i p) (bad:∀ p,Q[b]? = some p->¬ good n ((ts.length:Int)-1) Q b p) (hnb:∀ k,inBlock (.slice aT m cT)=some k->¬ MOwn x vt rv vs k) :
  Calls Tryz.prog 154 #[.string ⟨#[112,97,115,115]⟩,.slice aT m cT,.func (.func 155) #[.pointer (some ⟨x,0,none⟩)] #[]] w fun e w'=>(b=m/\e=.returned .nilIface/\MAt w' x 109 cs c00 ts n Q [] ln vt rv vs/\Fr (MOwn x vt rv vs) w w')\/(b < m/\∃ s,e=.returned (.iface 166 (.agg #[.string s,.iface 160 (.agg #[.int .i64 1])]))/\Fr (MOwn x vt rv vs) w w'):=by
 have b18:b<=18:=pigeon (by omega) (by omega) ok
 have HI:=hid (And.intro h (And.intro iT (And.intro hm (And.intro ok (And.intro bad hnb)))))
 clear h iT hm ok bad hnb
 go_enter Tryz.func154,Tryz.ntmps154
 go_wp2
 go_loopw [12] (fun i wr=>∃ (k:Nat),k<=b/\i=.int .i64 k/\Hid (MAt wr x 109 cs c00 ts n (Q.take k) [] ln vt rv vs/\Fr (MOwn x vt rv vs) w wr)) (fun i _=>b-(intOf i).toNat)
 case atStart=>exact ⟨0,Nat.zero_le _,rfl,HI.out.1,Fr.refl _ _⟩
 case round=>
  obtain ⟨k,hk,rfl,HC⟩:=hrel
  by_cases hkm:k < m
  ·obtain ⟨p,hp⟩:∃ p,Q[k]? = some p:=⟨_,List.getElem?_eq_getElem (by have:=HI.out.2.2.1;omega)⟩
   obtain ⟨b1,o1,ea,r0⟩:=HI.out.2.1.row (k:=k) (r:=[.int .i64 p.1,.int .i64 p.2.1,.int .i64 p.2.2.1,.int .i64 p.2.2.2]) (by rw [List.getElem?_map,hp];rfl)
   subst ea
   have lb0:b1 < w.heap.size:=block_lt_of_cell (r0 0 (.int .i64 p.1) rfl)
   have hib:inBlock (.slice (some ⟨b1,o1,none⟩) m cT)=some b1:=by
    obtain ⟨m',rfl⟩:∃ m',m=m'+1:=⟨m-1,by omega⟩
    rfl
   have r1:=rangeAt_cells r0 (HC.out.2.block b1 lb0 (HI.out.2.2.2.2.2 b1 hib))
   have g0:=r1 0 (.int .i64 p.1) rfl
   have g1:=r1 1 (.int .i64 p.2.1) rfl
   have g2:=r1 2 (.int .i64 p.2.2.1) rfl
   have g3:=r1 3 (.int .i64 p.2.2.2) rfl
   simp only [Nat.add_zero] at g0
   have lb:=block_lt_of_cell g0
   have HP:=hid hp
   have hkm':(k:Int) < (m:Int):=by omega
   clear r1 r0 hp hib
   have HA:=fun X=>HC.out.1.below ((Below.refl _ wr).alloc (Nat.le_refl _) X)
   by_cases hkb:k < b
   ·have o:=HI.out.2.2.2.1 k p hkb HP.out
    obtain ⟨s,hs⟩:=Int.eq_ofNat_of_zero_le o.1.1
    obtain ⟨j,hj⟩:=Int.eq_ofNat_of_zero_le o.1.2.2.1
    have A:=addPass_yes x 109 cs c00 ts n (Q.take k) [] ln vt rv vs s j p.2.2.1 p.2.2.2 _ (HA (.cells #[.int .i64 p.1,.int .i64 p.2.1,.int .i64 p.2.2.1,.int .i64 p.2.2.2] 55)) (by have:=o.1.2.1;omega) (by have:=o.1.2.2.2.1;omega) o.1.2.2.2.2.1 (by have:=o.1.2.2.2.2.2.1;omega) o.1.2.2.2.2.2.2.1 o.1.2.2.2.2.2.2.2 (by rw [<- hs,<- hj];exact find_none o.2)
    rw [<- hs,<- hj] at A
    have HX:=hid A
    clear A hs hj HA o
    go_wp2_with (go_at_call 155;refine HX.out.mono ?_;rintro e w2 ⟨rfl,H2⟩;replace H2:=hid H2)
    refine ⟨⟨k+1,by omega,by go_num,?_⟩,by simp [intOf];omega⟩
    rw [take_step HP.out]
    exact ⟨H2.out.1,(HC.out.2.alloc _).trans H2.out.2⟩
   ·have hkb':k=b:=by omega
    subst hkb'
    have A:Calls Tryz.prog 155 #[.pointer (some ⟨x,0,none⟩),.agg #[.int .i64 p.1,.int .i64 p.2.1,.int .i64 p.2.2.1,.int .i64 p.2.2.2]] (wr.alloc (.cells #[.int .i64 p.1,.int .i64 p.2.1,.int .i64 p.2.2.1,.int .i64 p.2.2.2] 55)) fun e w'=>e=.returned (.iface 160 (.agg #[.int .i64 1]))/\Below (wr.alloc (.cells #[.int .i64 p.1,.int .i64 p.2.1,.int .i64 p.2.2.1,.int .i64 p.2.2.2] 55)).heap.size (wr.alloc (.cells #[.int .i64 p.1,.int .i64 p.2.1,.int .i64 p.2.2.1,.int .i64 p.2.2.2] 55)) w':=by
     have nb:=HI.out.2.2.2.2.1 p HP.out
     by_cases ho:okQ n ((ts.length:Int)-1) p
     ·have hns:¬ ∀ (j:Nat) q,j < k->Q[j]? = some q->¬ (q.1=p.1/\q.2.1=p.2.1):=fun h=>nb ⟨ho,h⟩
      obtain ⟨s,hs⟩:=Int.eq_ofNat_of_zero_le ho.1
      obtain ⟨j,hj⟩:=Int.eq_ofNat_of_zero_le ho.2.2.1
      have A:=addPass_two x 109 cs c00 ts n (Q.take k) [] ln vt rv vs s j p.2.2.1 p.2.2.2 _ (HA (.cells #[.int .i64 p.1,.int .i64 p.2.1,.int .i64 p.2.2.1,.int .i64 p.2.2.2] 55)) (by have:=ho.2.1;omega) (by have:=ho.2.2.2.1;omega) ho.2.2.2.2.1 (by have:=ho.2.2.2.2.2.1;omega) ho.2.2.2.2.2.2.1 ho.2.2.2.2.2.2.2 (by rw [<- hs,<- hj];exact find_some hns (fun i q hi hq=>(HI.out.2.2.2.1 i q hi hq).1.2.2.2.2.2.2.1))
      rw [<- hs,<- hj] at A
      exact A
     ·exact addPass_no x 109 cs c00 ts n (Q.take k) [] ln vt rv vs p.1 p.2.1 p.2.2.1 p.2.2.2 _ (HA _) (fun h=>ho ⟨h.1,by have:=h.2.1;omega,h.2.2.1,by have:=h.2.2.2.1;omega,h.2.2.2.2.1,by have:=h.2.2.2.2.2.1;omega,h.2.2.2.2.2.2.1,h.2.2.2.2.2.2.2⟩)
    have HX:=hid A
    clear A HA
    have hc1:=fun w=>run_concat ⟨#[112,97,115,115]⟩ ⟨#[32]⟩ w (by decide)
    go_wp2_with (first
     | (go_at_call 155;refine HX.out.mono ?_;rintro e w2 ⟨rfl,H2⟩;replace H2:=hid H2)
     | (go_at_call 170;refine (itoa_any k (by omega) _).mono ?_;rintro e w3 ⟨s,rfl,hs,rfl⟩;have hc2:=fun w=>run_concat (⟨#[112,97,115,115]⟩ ++ ⟨#[32]⟩) s w (by rw [ByteArray.size_append];have h1:ByteArray.size ⟨#[112,97,115,115]⟩=4:=rfl;have h2:ByteArray.size ⟨#[32]⟩=1:=rfl;omega)))
    go_ret
    refine .inr ⟨hkm,_,rfl,(HC.out.2.alloc _).after (Fr.of_below H2.out (fun _=>False)) (fun _ _ h=>h.elim)⟩
  ·have hkm':k=m:=by omega
   have hbm:b=m:=by omega
   subst hkm'
   have ek:Q.take k=Q:=List.take_of_length_le (by have:=HI.out.2.2.1;omega)
   go_wp2
   go_ret
   have H:=HC.out
   rw [ek] at H
   exact .inl ⟨hbm,rfl,H.1,H.2⟩
theorem eachL_any (x:Nat) (aT:Option Addr) (cT:Nat) (Q:List (Int×Int×Int×Int)) (m:Nat) (n b:Nat) (Q0:List (Int×Int×Int×Int)) (ts:List (Int×Int×Int×Int)) (ln:Nat->List Nat) (cs:Array Value) (vt:Value) (rv:Nat->Value) (vs:Value) (w:World)
  (h:MAt w x 109 cs c00 ts n Q0 [] ln vt rv vs) (iT:Inl w 4 (.slice aT m cT) (Q.map qRow)) (hm:Q.length=m) (hmm:m<=9223372036854775807) (hb:b<=m) (hn3:n<=3) (ok:∀ (i:Nat) p,i < b->Q[i]? = some p->good n 7 Q i p) (bad:∀ p,Q[b]? = some p->¬ good n 7 Q b p) (hnb:∀ k,inBlock (.slice aT m cT)=some k->¬ MOwn x vt rv vs k) :
  Calls Tryz.prog 156 #[.string ⟨#[108,101,97,102]⟩,.slice aT m cT,.func (.func 157) #[.pointer (some ⟨x,0,none⟩)] #[]] w fun e w'=>(b=m/\e=.returned .nilIface/\MAt w' x 109 cs c00 ts n Q0 Q ln vt rv vs/\Fr (MOwn x vt rv vs) w w')\/(b < m/\∃ s,e=.returned (.iface 166 (.agg #[.string s,.iface 160 (.agg #[.int .i64 1])]))/\Fr (MOwn x vt rv vs) w w'):=by
 have b18:b<=18:=pigeon (by omega) (by omega) ok
 have HI:=hid (And.intro h (And.intro iT (And.intro hm (And.intro ok (And.intro bad hnb)))))
 clear h iT hm ok bad hnb
 go_enter Tryz.func156,Tryz.ntmps156
 go_wp2
 go_loopw [12] (fun i wr=>∃ (k:Nat),k<=b/\i=.int .i64 k/\Hid (MAt wr x 109 cs c00 ts n Q0 (Q.take k) ln vt rv vs/\Fr (MOwn x vt rv vs) w wr)) (fun i _=>b-(intOf i).toNat)
 case atStart=>exact ⟨0,Nat.zero_le _,rfl,HI.out.1,Fr.refl _ _⟩
 case round=>
  obtain ⟨k,hk,rfl,HC⟩:=hrel
  by_cases hkm:k < m
  ·obtain ⟨p,hp⟩:∃ p,Q[k]? = some p:=⟨_,List.getElem?_eq_getElem (by have:=HI.out.2.2.1;omega)⟩
   obtain ⟨b1,o1,ea,r0⟩:=HI.out.2.1.row (k:=k) (r:=[.int .i64 p.1,.int .i64 p.2.1,.int .i64 p.2.2.1,.int .i64 p.2.2.2]) (by rw [List.getElem?_map,hp];rfl)
   subst ea
   have lb0:b1 < w.heap.size:=block_lt_of_cell (r0 0 (.int .i64 p.1) rfl)
   have hib:inBlock (.slice (some ⟨b1,o1,none⟩) m cT)=some b1:=by
    obtain ⟨m',rfl⟩:∃ m',m=m'+1:=⟨m-1,by omega⟩
    rfl
   have r1:=rangeAt_cells r0 (HC.out.2.block b1 lb0 (HI.out.2.2.2.2.2 b1 hib))
   have g0:=r1 0 (.int .i64 p.1) rfl
   have g1:=r1 1 (.int .i64 p.2.1) rfl
   have g2:=r1 2 (.int .i64 p.2.2.1) rfl
   have g3:=r1 3 (.int .i64 p.2.2.2) rfl
   simp only [Nat.add_zero] at g0
   have lb:=block_lt_of_cell g0
   have HP:=hid hp
   have hkm':(k:Int) < (m:Int):=by omega
   clear r1 r0 hp hib
   have HA:=fun X=>HC.out.1.below ((Below.refl _ wr).alloc (Nat.le_refl _) X)
   by_cases hkb:k < b
   ·have o:=HI.out.2.2.2.1 k p hkb HP.out
    obtain ⟨s,hs⟩:=Int.eq_ofNat_of_zero_le o.1.1
    obtain ⟨j,hj⟩:=Int.eq_ofNat_of_zero_le o.1.2.2.1
    have A:=addLeaf_yes x 109 cs c00 ts n Q0 (Q.take k) ln vt rv vs s j p.2.2.1 p.2.2.2 _ (HA (.cells #[.int .i64 p.1,.int .i64 p.2.1,.int .i64 p.2.2.1,.int .i64 p.2.2.2] 67)) (by have:=o.1.2.1;omega) (by have:=o.1.2.2.2.1;omega) o.1.2.2.2.2.1 (by have:=o.1.2.2.2.2.2.1;omega) o.1.2.2.2.2.2.2.1 o.1.2.2.2.2.2.2.2 (by rw [<- hs,<- hj];exact find_none o.2)
    rw [<- hs,<- hj] at A
    have HX:=hid A
    clear A hs hj HA o
    go_wp2_with (go_at_call 157;refine HX.out.mono ?_;rintro e w2 ⟨rfl,H2⟩;replace H2:=hid H2)
    refine ⟨⟨k+1,by omega,by go_num,?_⟩,by simp [intOf];omega⟩
    rw [take_step HP.out]
    exact ⟨H2.out.1,(HC.out.2.alloc _).trans H2.out.2⟩
   ·have hkb':k=b:=by omega
    subst hkb'
    have A:Calls Tryz.prog 157 #[.pointer (some ⟨x,0,none⟩),.agg #[.int .i64 p.1,.int .i64 p.2.1,.int .i64 p.2.2.1,.int .i64 p.2.2.2]] (wr.alloc (.cells #[.int .i64 p.1,.int .i64 p.2.1,.int .i64 p.2.2.1,.int .i64 p.2.2.2] 67)) fun e w'=>e=.returned (.iface 160 (.agg #[.int .i64 1]))/\Below (wr.alloc (.cells #[.int .i64 p.1,.int .i64 p.2.1,.int .i64 p.2.2.1,.int .i64 p.2.2.2] 67)).heap.size (wr.alloc (.cells #[.int .i64 p.1,.int .i64 p.2.1,.int .i64 p.2.2.1,.int .i64 p.2.2.2] 67)) w':=by
     have nb:=HI.out.2.2.2.2.1 p HP.out
     by_cases ho:okQ n 7 p
     ·have hns:¬ ∀ (j:Nat) q,j < k->Q[j]? = some q->¬ (q.1=p.1/\q.2.1=p.2.1):=fun h=>nb ⟨ho,h⟩
      obtain ⟨s,hs⟩:=Int.eq_ofNat_of_zero_le ho.1
      obtain ⟨j,hj⟩:=Int.eq_ofNat_of_zero_le ho.2.2.1
      have A:=addLeaf_two x 109 cs c00 ts n Q0 (Q.take k) ln vt rv vs s j p.2.2.1 p.2.2.2 _ (HA (.cells #[.int .i64 p.1,.int .i64 p.2.1,.int .i64 p.2.2.1,.int .i64 p.2.2.2] 67)) (by have:=ho.2.1;omega) (by have:=ho.2.2.2.1;omega) ho.2.2.2.2.1 (by have:=ho.2.2.2.2.2.1;omega) ho.2.2.2.2.2.2.1 ho.2.2.2.2.2.2.2 (by rw [<- hs,<- hj];exact find_some hns (fun i q hi hq=>(HI.out.2.2.2.1 i q hi hq).1.2.2.2.2.2.2.1))
      rw [<- hs,<- hj] at A
      exact A
     ·exact addLeaf_no x 109 cs c00 ts n Q0 (Q.take k) ln vt rv vs p.1 p.2.1 p.2.2.1 p.2.2.2 _ (HA _) (fun h=>ho ⟨h.1,by have:=h.2.1;omega,h.2.2.1,by have:=h.2.2.2.1;omega,h.2.2.2.2.1,by have:=h.2.2.2.2.2.1;omega,h.2.2.2.2.2.2.1,h.2.2.2.2.2.2.2⟩)
    have HX:=hid A
    clear A HA
    have hc1:=fun w=>run_concat ⟨#[108,101,97,102]⟩ ⟨#[32]⟩ w (by decide)
    go_wp2_with (first
     | (go_at_call 157;refine HX.out.mono ?_;rintro e w2 ⟨rfl,H2⟩;replace H2:=hid H2)
     | (go_at_call 170;refine (itoa_any k (by omega) _).mono ?_;rintro e w3 ⟨s,rfl,hs,rfl⟩;have hc2:=fun w=>run_concat (⟨#[108,101,97,102]⟩ ++ ⟨#[32]⟩) s w (by rw [ByteArray.size_append];have h1:ByteArray.size ⟨#[108,101,97,102]⟩=4:=rfl;have h2:ByteArray.size ⟨#[32]⟩=1:=rfl;omega)))
    go_ret
    refine .inr ⟨hkm,_,rfl,(HC.out.2.alloc _).after (Fr.of_below H2.out (fun _=>False)) (fun _ _ h=>h.elim)⟩
  ·have hkm':k=m:=by omega
   have hbm:b=m:=by omega
   subst hkm'
   have ek:Q.take k=Q:=List.take_of_length_le (by have:=HI.out.2.2.1;omega)
   go_wp2
   go_ret
   have H:=HC.out
   rw [ek] at H
   exact .inl ⟨hbm,rfl,H.1,H.2⟩
open Go.RowKit
theorem Tryz.infoN232:(Tryz.prog.info? 232).map (fun i=>(i.zero,i.size,i.bytes))=some (some (.agg #[.int .i64 0,.int .i64 0,.int .i64 0,.int .i64 0,.int .i64 0,.int .i64 0,.int .i64 0,.int .i64 0,.int .i64 0,.int .i64 0,.int .i64 0,.int .i64 0,.int .i64 0,.int .i64 0,.pointer none,.int .i64 0,.int .i64 0,.pointer none,.int .i64 0,.int .i64 0,.pointer none,.int .i64 0,.int .i64 0,.pointer none,.int .i64 0,.int .i64 0,.pointer none,.int .i64 0,.int .i64 0,.pointer none]),30,240):=by kernel_rfl
def mcells (cl:Int) (vt r0 r1 r2 r3 vs:Value):Array Value:=#[.int .u64 cl,vt,r0,r1,r2,r3,vs,.int .i64 0,.int .i64 0,.int .i64 0,.int .i64 0,.int .i64 0,.int .i64 0,.int .i64 0,.int .i64 0,.int .i64 0,.int .i64 0,.int .i64 0,.int .i64 0,.int .i64 0,.int .i64 0,.int .i64 0,.int .i64 0,.int .i64 0,.int .i64 0,.int .i64 0,.int .i64 0,.int .i64 0,.int .i64 0,.int .i64 0,.int .i64 0,.int .i64 0,.int .i64 0,.int .i64 0,.int .i64 0,.int .i64 0,.int .i64 0,.int .i64 0,.int .i64 0]
theorem make_n {t e:TypeId}{z:Value}{size bytes:Nat}(ht:Tryz.prog.underlying t=some (.slice e)) (h:(Tryz.prog.info? e).map (fun i=>(i.zero,i.size,i.bytes))=some (some z,size,bytes)) (n:Nat) (hn:bytes*n<=281474976710656) (hb:0 < bytes) :
  ∀ w,(Instr.makeSlice t (.int .i64 n) (.int .i64 n)).run Tryz.prog w=.ok (.slice (some ⟨w.heap.size,0,none⟩) n n) (w.alloc (.cells (madeCells z.cells (n*size)) e)):=by
 intro w
 obtain ⟨i,hi,h0,h1,h2⟩:=info_parts h
 subst h1 h2
 have hb':(i.bytes:Int)*(n:Int)<=281474976710656:=by
  have h:((i.bytes*n:Nat):Int)<=281474976710656:=by omega
  rwa [Int.natCast_mul] at h
 have hle:n<=i.bytes*n:=Nat.le_mul_of_pos_left _ hb
 have:=run_make (P:=Tryz.prog) w t e i z ht hi h0 .i64 .i64 (n:Int) (n:Int) (by omega) (Int.le_refl _) hb' (by omega)
 rw [show ((n:Int)).toNat=n by omega] at this
 exact this
theorem openSpaces_no (x:Nat) (c:Int) (w:World) (h:¬ (1<=c/\c<=3)):Calls Tryz.prog 150 #[.pointer (some ⟨x,0,none⟩),.int .i64 c] w fun e w'=>e=.returned (.iface 160 (.agg #[.int .i64 1]))/\w'=w:=by
 have d:decide (1<=c/\c<=3)=false:=by simpa using h
 go_enter Tryz.func150,Tryz.ntmps150
 go_wp2_with (first | (go_at_call 132;refine (between_dec _ _ _ _).mono ?_;rintro e w' ⟨rfl,rfl⟩;rw [d]) | (go_at_call 151;refine (noConfig_any _).mono ?_;rintro e w1 ⟨rfl,rfl⟩))
 go_ret
 exact ⟨rfl,rfl⟩
theorem sp_empty (n:Nat) (hn:n<=3):spRows n [] []=List.replicate n [.int .i64 0,.int .i64 0,.int .i64 0,.int .i64 0,.int .i64 0,.int .i64 0,.int .i64 0,.int .i64 0,.int .i64 0,.int .i64 0,.int .i64 0,.int .i64 0,.int .i64 0,.int .i64 0,.pointer none,.int .i64 0,.int .i64 0,.pointer none,.int .i64 0,.int .i64 0,.pointer none,.int .i64 0,.int .i64 0,.pointer none,.int .i64 0,.int .i64 0,.pointer none,.int .i64 0,.int .i64 0,.pointer none]:=by
 have h:n=0\/n=1\/n=2\/n=3:=by omega
 rcases h with rfl | rfl | rfl | rfl <;> rfl
theorem mcells_fr (cl:Int) (vt r0 r1 r2 r3 vs:Value) (j:Nat) (hj:j < 32):(mcells cl vt r0 r1 r2 r3 vs)[7+j]? = some (.int .i64 0):=by
 have e:mcells cl vt r0 r1 r2 r3 vs=#[.int .u64 cl,vt,r0,r1,r2,r3,vs] ++ (List.replicate 32 (Value.int .i64 0)).toArray:=by apply Array.ext';simp [mcells,List.replicate_succ]
 rw [e,Array.getElem?_append_right (by simp)]
 generalize hv:Value.int .i64 0=v
 have h7:7+j-(#[Value.int .u64 cl,vt,r0,r1,r2,r3,vs]:Array Value).size=j:=by show 7+j-7=j;omega
 rw [h7,List.getElem?_toArray,List.getElem?_replicate,if_pos hj]
theorem mcells_size (cl:Int) (vt r0 r1 r2 r3 vs:Value):(mcells cl vt r0 r1 r2 r3 vs).size=39:=rfl
theorem cs_eq {cs:Array Value}{cl:Int}{vt r0 r1 r2 r3 vs:Value}(hs:cs.size=39) (c0:cs[0]? = some (.int .u64 cl)) (c1:cs[1]? = some vt) (c2:cs[2]? = some r0) (c3:cs[3]? = some r1) (c4:cs[4]? = some r2) (c5:cs[5]? = some r3) (c6:cs[6]? = some vs) (fr:∀ j,j < 32->cs[7+j]? = some (.int .i64 0)):cs=mcells cl vt r0 r1 r2 r3 vs:=by
 apply Array.ext_getElem?
 intro i
 by_cases h:i < 7
 ·have h:i=0\/i=1\/i=2\/i=3\/i=4\/i=5\/i=6:=by omega
  rcases h with rfl | rfl | rfl | rfl | rfl | rfl | rfl
  ·exact c0.trans rfl
  ·exact c1.trans rfl
  ·exact c2.trans rfl
  ·exact c3.trans rfl
  ·exact c4.trans rfl
  ·exact c5.trans rfl
  ·exact c6.trans rfl
 ·by_cases h2:i < 39
  ·obtain ⟨j,rfl⟩:∃ j,i=7+j:=⟨i-7,by omega⟩
   rw [fr j (by omega),mcells_fr _ _ _ _ _ _ _ j (by omega)]
  ·rw [Array.getElem?_eq_none (by omega),Array.getElem?_eq_none (by rw [mcells_size];omega)]
theorem MAt.cs_eq {w:World}{x:Nat}{ty:TypeId}{cs:Array Value}{ts:List (Int×Int×Int×Int)}{n:Nat}{Q L:List (Int×Int×Int×Int)}{ln:Nat->List Nat}{vt:Value}{rv:Nat->Value}{vs:Value}
  (h:MAt w x ty cs c00 ts n Q L ln vt rv vs):cs=mcells 0 vt (rv 0) (rv 1) (rv 2) (rv 3) vs:=
 Go.Proofs.YteejjgbeknnmeaaGreatDoor.cs_eq h.size h.c0 h.c1 (h.row 0 (by omega)) (h.row 1 (by omega)) (h.row 2 (by omega)) (h.row 3 (by omega)) h.c6 h.fr
def z30:Array Value:=#[.int .i64 0,.int .i64 0,.int .i64 0,.int .i64 0,.int .i64 0,.int .i64 0,.int .i64 0,.int .i64 0,.int .i64 0,.int .i64 0,.int .i64 0,.int .i64 0,.int .i64 0,.int .i64 0,.pointer none,.int .i64 0,.int .i64 0,.pointer none,.int .i64 0,.int .i64 0,.pointer none,.int .i64 0,.int .i64 0,.pointer none,.int .i64 0,.int .i64 0,.pointer none,.int .i64 0,.int .i64 0,.pointer none]
theorem open_end {w:World}{x n:Nat}(h3:n<=3) (hb:w.heap[x]? = some (.cells (mcells 0 (.slice none 0 0) (.slice none 0 0) (.slice none 0 0) (.slice none 0 0) (.slice none 0 0) (.slice none 0 0)) 109 (0,0))) :
  MAt ((w.setCell ⟨x,6,none⟩ (.slice (some ⟨w.heap.size,0,none⟩) n n)).alloc (.cells (madeCells z30 (n*30)) 232)) x 109 (mcells 0 (.slice none 0 0) (.slice none 0 0) (.slice none 0 0) (.slice none 0 0) (.slice none 0 0) (.slice (some ⟨w.heap.size,0,none⟩) n n)) c00 [] n [] [] (fun _=>[]) (.slice none 0 0) (fun _=>.slice none 0 0) (.slice (some ⟨w.heap.size,0,none⟩) n n) /\
  Fr (fun k=>k=x) w ((w.setCell ⟨x,6,none⟩ (.slice (some ⟨w.heap.size,0,none⟩) n n)).alloc (.cells (madeCells z30 (n*30)) 232))/\∀ k,Value.ownBlock (.slice (some ⟨w.heap.size,0,none⟩) n n)=some k->w.heap.size<=k:=by
 have lx:=(Array.getElem?_eq_some_iff.1 hb).1
 have hsz:(w.setCell ⟨x,6,none⟩ (.slice (some ⟨w.heap.size,0,none⟩) n n)).heap.size=w.heap.size:=by simp [World.setCell]
 have hb2:=heap_setCell_same w x 6 _ 109 (.slice (some ⟨w.heap.size,0,none⟩) n n) hb
 have hn:=heap_alloc_new (w.setCell ⟨x,6,none⟩ (.slice (some ⟨w.heap.size,0,none⟩) n n)) (.cells (madeCells z30 (n*30)) 232)
 rw [hsz] at hn
 have S:=made_sl (n:=n) (size:=30) rfl (by omega) (by unfold maxLen;omega) hn
 have es:List.replicate n z30.toList=spRows n [] []:=(sp_empty n h3).symm
 rw [es] at S
 refine ⟨⟨(Below.heap_alloc _ _ _ (by rw [hsz];exact lx)).trans hb2,rfl,rfl,rfl,?_,rfl,Sl.nil _ _ _,fun r _=>Sl.nil _ _ _,S,by simp [Value.ownBlock],by simp [Value.ownBlock],?_,by simp [Value.ownBlock],by simp [Value.ownBlock],by simp [Value.ownBlock],?_⟩,((Fr.refl (fun k=>k=x) w).setCell (p:=⟨x,6,none⟩) (fun _=>rfl) _).alloc _,?_⟩
 ·intro r hr
  have h:r=0\/r=1\/r=2\/r=3:=by omega
  rcases h with rfl | rfl | rfl | rfl <;> rfl
 ·simp only [Value.ownBlock,ne_eq,Option.some.injEq];omega
 ·exact fun j hj=>mcells_fr _ _ _ _ _ _ _ j hj
 ·intro k hk
  simp only [Value.ownBlock,Option.some.injEq] at hk
  omega
theorem openSpaces_yes (x n:Nat) (w:World) (h1:1<=n) (h3:n<=3) (hb:w.heap[x]? = some (.cells (mcells 0 (.slice none 0 0) (.slice none 0 0) (.slice none 0 0) (.slice none 0 0) (.slice none 0 0) (.slice none 0 0)) 109 (0,0))) :
  Calls Tryz.prog 150 #[.pointer (some ⟨x,0,none⟩),.int .i64 n] w fun e w'=>e=.returned .nilIface/\∃ cs vs,MAt w' x 109 cs c00 [] n [] [] (fun _=>[]) (.slice none 0 0) (fun _=>.slice none 0 0) vs/\Fr (fun k=>k=x) w w'/\∀ k,vs.ownBlock=some k->w.heap.size<=k:=by
 have d:decide (1<=(n:Int)/\(n:Int)<=3)=true:=by simp;omega
 have hm:=make_n Tryz.underlying104 Tryz.infoN232 n (by omega) (by decide)
 simp only [Value.cells] at hm
 have lx:=(Array.getElem?_eq_some_iff.1 hb).1
 have HB:=hid hb
 have hb1:Hid ((w.alloc (.cells (madeCells #[.int .i64 0,.int .i64 0,.int .i64 0,.int .i64 0,.int .i64 0,.int .i64 0,.int .i64 0,.int .i64 0,.int .i64 0,.int .i64 0,.int .i64 0,.int .i64 0,.int .i64 0,.int .i64 0,.pointer none,.int .i64 0,.int .i64 0,.pointer none,.int .i64 0,.int .i64 0,.pointer none,.int .i64 0,.int .i64 0,.pointer none,.int .i64 0,.int .i64 0,.pointer none,.int .i64 0,.int .i64 0,.pointer none] (n*30)) 232)).heap[x]? = _):=(Below.heap_alloc _ _ _ lx).trans hb
 have c6:=(cell_of_row _ x 6 _ _ _ hb1.out).trans (show _=some (Value.slice none 0 0) from rfl)
 have f6:=frozen_of_row _ x 6 _ _ hb1.out
 clear hb
 go_enter Tryz.func150,Tryz.ntmps150
 go_wp2_with (first | (go_at_call 132;refine (between_dec _ _ _ _).mono ?_;rintro e w' ⟨rfl,rfl⟩;rw [d]) | (go_at_call 151;refine (noConfig_any _).mono ?_;rintro e w1 ⟨rfl,rfl⟩))
 go_ret
 exact ⟨rfl,_,_,open_end h3 HB.out⟩
open Go.RowKit
theorem least (m:Nat) (g:Nat->Prop):∃ b,b<=m/\(∀ i,i < b->g i)/\(b < m->¬ g b):=by
 induction m with
 | zero=>exact ⟨0,Nat.le_refl _,fun i hi=>absurd hi (by omega),fun h=>absurd h (by omega)⟩
 | succ m ih=>
  obtain ⟨b,hb,h1,h2⟩:=ih
  by_cases hbm:b < m
  ·exact ⟨b,by omega,h1,fun _=>h2 hbm⟩
  ·have:b=m:=by omega
   subst this
   by_cases hg:g b
   ·exact ⟨b+1,Nat.le_refl _,fun i hi=>by
     by_cases e:i < b
     ·exact h1 i e
     ·have:i=b:=by omega
      subst this;exact hg,fun h=>absurd h (by omega)⟩
   ·exact ⟨b,by omega,h1,fun _=>hg⟩
theorem build_se (x:Nat) (sp:Int) (vT vP vL:Value) (T:List (Int×Int)) (w:World) (iT:Inl w 2 vT (T.map tRow)) (hP:∃ a n c,vP=.slice a n c) (hL:∃ a n c,vL=.slice a n c) (lx:x < w.heap.size)
  (hb:w.heap[x]? = some (.cells (mcells 0 (.slice none 0 0) (.slice none 0 0) (.slice none 0 0) (.slice none 0 0) (.slice none 0 0) (.slice none 0 0)) 109 (0,0))) (hbad:¬ (1<=sp/\sp<=3)\/¬ (1<=T.length/\T.length<=6)) :
  Calls Tryz.prog 121 #[.pointer (some ⟨x,0,none⟩),.agg #[.int .i64 sp,vT,vP,vL]] w fun e w'=>e=.returned (.iface 160 (.agg #[.int .i64 1]))/\Fr (fun k=>k=x) w w':=by
 obtain ⟨aT,cT,eT⟩:=iT.slice
 rw [List.length_map] at eT
 subst eT
 obtain ⟨aP,nP,cP,rfl⟩:=hP
 obtain ⟨aL,nL,cL,rfl⟩:=hL
 clear iT
 by_cases h1:1<=sp/\sp<=3
 ·obtain ⟨n,rfl⟩:=Int.eq_ofNat_of_zero_le (show 0<=sp by omega)
  have hT:¬ (1<=T.length/\T.length<=6):=by
   rcases hbad with h | h
   ·exact absurd h1 h
   ·exact h
  generalize T.length=m at *
  have d:decide (1<=(m:Int)/\(m:Int)<=6)=false:=by simp;omega
  have O:=hid (openSpaces_yes x n (w.alloc (.cells #[.int .i64 n,.slice aT m cT,.slice aP nP cP,.slice aL nL cL] 32)) (by omega) (by omega) ((Below.heap_alloc _ _ _ lx).trans hb))
  have h40:=heap_alloc_new w (.cells #[.int .i64 n,.slice aT m cT,.slice aP nP cP,.slice aL nL cL] 32)
  have HB:=hid (And.intro hb h40)
  clear hb hbad h1 hT h40
  go_enter Tryz.func121,Tryz.ntmps121
  go_wp2_with (first
   | (go_at_call 150;refine O.out.mono ?_;rintro e w1 ⟨rfl,cs,vs,H1⟩;have hb1:=(H1.2.1.block w.heap.size (by simp) (by omega)).trans HB.out.2;have c1:w1.cell? ⟨w.heap.size,1,none⟩=some (.slice aT m cT):=(cell_of_row w1 _ 1 _ _ _ hb1).trans rfl;replace H1:=hid (And.intro H1 hb1);clear hb1)
   | (go_at_call 132;refine (between_dec _ _ _ _).mono ?_;rintro e w2 ⟨rfl,rfl⟩;rw [d])
   | (go_at_call 151;refine (noConfig_any _).mono ?_;rintro e w2 ⟨rfl,rfl⟩))
  go_ret
  exact ⟨rfl,((Fr.refl _ w).alloc _).trans H1.out.1.2.1⟩
 ·have O:=fun w=>openSpaces_no x sp w h1
  have HB:=hid hb
  clear hb hbad h1
  go_enter Tryz.func121,Tryz.ntmps121
  go_wp2_with (go_at_call 150;refine (O _).mono ?_;rintro e w1 ⟨rfl,rfl⟩)
  go_ret
  exact ⟨rfl,(Fr.refl _ w).alloc _⟩
open Go.RowKit
theorem Inl.inlt {w:World}{size:Nat}{v:Value}{rows:List (List Value)}(h:Inl w size v rows) (hs:0 < size){k:Nat}(hk:inBlock v=some k):k < w.heap.size:=by
 refine h.lt hs (fun e=>?_) hk
 subst e
 obtain ⟨a,c,rfl,_⟩:=h.form
 cases a <;> simp [inBlock] at hk
structure Stage (w:World) (bx:Obj) (x:Nat) (vt:Value) (rv:Nat->Value) (vs:Value) (w':World):Prop where
 fr:Fr (fun k=>k=x) (w.alloc bx) w'
 own:∀ k,MOwn x vt rv vs k->k=x\/w.heap.size+1<=k
theorem Stage.box {w:World}{bx:Obj}{x:Nat}{vt:Value}{rv:Nat->Value}{vs:Value}{w':World}(h:Stage w bx x vt rv vs w') (lx:x < w.heap.size):w'.heap[w.heap.size]? = some bx:=
 (h.fr.block w.heap.size (by simp) (by omega)).trans (heap_alloc_new w bx)
theorem Stage.inl {w:World}{bx:Obj}{x:Nat}{vt:Value}{rv:Nat->Value}{vs:Value}{w':World}(h:Stage w bx x vt rv vs w'){size:Nat}{v:Value}{rows:List (List Value)}(hi:Inl w size v rows) (hs:0 < size) (hx:∀ k,inBlock v=some k->k≠x):Inl w' size v rows:=
 (hi.alloc hs bx).kept hs h.fr hx
theorem Stage.nb {w:World}{bx:Obj}{x:Nat}{vt:Value}{rv:Nat->Value}{vs:Value}{w':World}(h:Stage w bx x vt rv vs w'){size:Nat}{v:Value}{rows:List (List Value)}(hi:Inl w size v rows) (hs:0 < size) (hx:∀ k,inBlock v=some k->k≠x):∀ k,inBlock v=some k->¬ MOwn x vt rv vs k:=fun k hk ho=>by
 have:=hi.inlt hs hk
 rcases h.own k ho with e | e
 ·exact hx k hk e
 ·omega
theorem Stage.next {w:World}{bx:Obj}{x:Nat}{vt vt2:Value}{rv rv2:Nat->Value}{vs:Value}{w1 w2:World}(h:Stage w bx x vt rv vs w1) (hf:Fr (MOwn x vt rv vs) w1 w2) (ho:∀ k,MOwn x vt2 rv2 vs k->MOwn x vt rv vs k\/w1.heap.size<=k):Stage w bx x vt2 rv2 vs w2:=
 ⟨h.fr.after hf (fun i hi e=>by
  rcases h.own i e with e | e
  ·exact e
  ·simp at hi;omega),fun k hk=>by
  have:=h.fr.size
  simp at this
  rcases ho k hk with e | e
  ·exact h.own k e
  ·exact .inr (by omega)⟩
theorem build_any (x n:Nat) (aT aP aL:Option Addr) (mT mP mL cT cP cL:Nat) (T:List (Int×Int)) (Q L:List (Int×Int×Int×Int)) (w:World) (iT:Inl w 2 (.slice aT mT cT) (T.map tRow)) (iP:Inl w 4 (.slice aP mP cP) (Q.map qRow)) (iL:Inl w 4 (.slice aL mL cL) (L.map qRow)) (lx:x < w.heap.size)
  (eT:T.length=mT) (eP:Q.length=mP) (eL:L.length=mL)
  (xT:∀ k,inBlock (.slice aT mT cT)=some k->k≠x) (xP:∀ k,inBlock (.slice aP mP cP)=some k->k≠x) (xL:∀ k,inBlock (.slice aL mL cL)=some k->k≠x)
  (hb:w.heap[x]? = some (.cells (mcells 0 (.slice none 0 0) (.slice none 0 0) (.slice none 0 0) (.slice none 0 0) (.slice none 0 0) (.slice none 0 0)) 109 (0,0))) (n1:1<=n) (n3:n<=3) (t1:1<=mT) (t6:mT<=6) :
  Calls Tryz.prog 121 #[.pointer (some ⟨x,0,none⟩),.agg #[.int .i64 n,.slice aT mT cT,.slice aP mP cP,.slice aL mL cL]] w fun e w'=>(Fits n T Q L/\e=.returned .nilIface/\∃ cs ln vt rv vs,MAt w' x 109 cs c00 (born 0 T) n Q L ln vt rv vs/\Lined (born 0 T) T.length ln/\Stage w (.cells #[.int .i64 n,.slice aT mT cT,.slice aP mP cP,.slice aL mL cL] 32) x vt rv vs w') \/
   (¬ Fits n T Q L/\∃ s,e=.returned (.iface 166 (.agg #[.string s,.iface 160 (.agg #[.int .i64 1])]))/\Fr (fun k=>k=x) w w'):=by
 obtain ⟨bT,bT1,bT2,bT3⟩:=least mT (fun i=>∀ p,T[i]? = some p->okT n p)
 obtain ⟨bQ,bQ1,bQ2,bQ3⟩:=least mP (fun i=>∀ p,Q[i]? = some p->good n ((T.length:Int)-1) Q i p)
 obtain ⟨bL,bL1,bL2,bL3⟩:=least mL (fun i=>∀ p,L[i]? = some p->good n 7 L i p)
 have xP63:mP<=9223372036854775807:=by obtain ⟨_,_,_,h,_⟩:=iP.form;unfold maxLen at h;simp at h;omega
 have xL63:mL<=9223372036854775807:=by obtain ⟨_,_,_,h,_⟩:=iL.form;unfold maxLen at h;simp at h;omega
 have okT':∀ (i:Nat) p,i < bT->T[i]? = some p->okT n p:=fun i p hi hp=>bT2 i hi p hp
 have badT:∀ p,T[bT]? = some p->¬ okT n p:=fun p hp h=>by
  have hl:=(List.getElem?_eq_some_iff.1 hp).1
  exact bT3 (by omega) (fun q hq=>by rw [hp] at hq;cases hq;exact h)
 have okQ':∀ (i:Nat) p,i < bQ->Q[i]? = some p->good n ((T.length:Int)-1) Q i p:=fun i p hi hp=>bQ2 i hi p hp
 have badQ:∀ p,Q[bQ]? = some p->¬ good n ((T.length:Int)-1) Q bQ p:=fun p hp h=>by
  have hl:=(List.getElem?_eq_some_iff.1 hp).1
  exact bQ3 (by omega) (fun q hq=>by rw [hp] at hq;cases hq;exact h)
 have okL':∀ (i:Nat) p,i < bL->L[i]? = some p->good n 7 L i p:=fun i p hi hp=>bL2 i hi p hp
 have badL:∀ p,L[bL]? = some p->¬ good n 7 L bL p:=fun p hp h=>by
  have hl:=(List.getElem?_eq_some_iff.1 hp).1
  exact bL3 (by omega) (fun q hq=>by rw [hp] at hq;cases hq;exact h)
 have hlb:(born 0 T).length=T.length:=born_length 0 T
 have ET:∀ (cs:Array Value) (vt:Value) (rv:Nat->Value) (vs:Value) (w1:World),MAt w1 x 109 cs c00 [] n [] [] (fun _=>[]) vt rv vs->Stage w (.cells #[.int .i64 n,.slice aT mT cT,.slice aP mP cP,.slice aL mL cL] 32) x vt rv vs w1->_:=
  fun cs vt rv vs w1 h1 st=>eachT_any x aT cT T mT n bT cs vt rv vs w1 h1 (st.inl iT (by omega) xT) eT t6 bT1 okT' badT (st.nb iT (by omega) xT)
 have EP:∀ (ln:Nat->List Nat) (cs:Array Value) (vt:Value) (rv:Nat->Value) (vs:Value) (w1:World),MAt w1 x 109 cs c00 (born 0 T) n [] [] ln vt rv vs->Stage w (.cells #[.int .i64 n,.slice aT mT cT,.slice aP mP cP,.slice aL mL cL] 32) x vt rv vs w1->_:=
  fun ln cs vt rv vs w1 h1 st=>eachP_any x aP cP Q mP n bQ (born 0 T) ln cs vt rv vs w1 h1 (st.inl iP (by omega) xP) eP xP63 bQ1 n3 (by rw [hlb];exact okQ') (by rw [hlb];exact badQ) (st.nb iP (by omega) xP)
 have EL:∀ (ln:Nat->List Nat) (cs:Array Value) (vt:Value) (rv:Nat->Value) (vs:Value) (w1:World),MAt w1 x 109 cs c00 (born 0 T) n Q [] ln vt rv vs->Stage w (.cells #[.int .i64 n,.slice aT mT cT,.slice aP mP cP,.slice aL mL cL] 32) x vt rv vs w1->_:=
  fun ln cs vt rv vs w1 h1 st=>eachL_any x aL cL L mL n bL Q (born 0 T) ln cs vt rv vs w1 h1 (st.inl iL (by omega) xL) eL xL63 bL1 n3 okL' badL (st.nb iL (by omega) xL)
 have O:=openSpaces_yes x n (w.alloc (.cells #[.int .i64 n,.slice aT mT cT,.slice aP mP cP,.slice aL mL cL] 32)) n1 n3 ((Below.heap_alloc _ _ _ lx).trans hb)
 have FT:Fits n T Q L->bT=mT:=fun hf=>by
  by_cases e:bT < mT
  ·exact absurd (fun p hp=>hf.2.2.1 bT p hp) (bT3 e)
  ·omega
 have FQ:Fits n T Q L->bQ=mP:=fun hf=>by
  by_cases e:bQ < mP
  ·exact absurd (fun p hp=>⟨hf.2.2.2.1 bQ p hp,fun j q hj hq h=>hf.2.2.2.2.1 bQ j p q hj hp hq h⟩) (bQ3 e)
  ·omega
 have FL:Fits n T Q L->bL=mL:=fun hf=>by
  by_cases e:bL < mL
  ·exact absurd (fun p hp=>⟨hf.2.2.2.2.2.1 bL p hp,fun j q hj hq h=>hf.2.2.2.2.2.2 bL j p q hj hp hq h⟩) (bL3 e)
  ·omega
 have FF:bT=mT->bQ=mP->bL=mL->Fits n T Q L:=fun a b c=>by
  refine ⟨by omega,by omega,fun i p hp=>?_,fun i p hp=>?_,fun i k p q hk hp hq=>?_,fun i p hp=>?_,fun i k p q hk hp hq=>?_⟩
  ·exact okT' i p (by have:=(List.getElem?_eq_some_iff.1 hp).1;omega) hp
  ·exact (okQ' i p (by have:=(List.getElem?_eq_some_iff.1 hp).1;omega) hp).1
  ·exact (okQ' i p (by have:=(List.getElem?_eq_some_iff.1 hp).1;omega) hp).2 k q hk hq
  ·exact (okL' i p (by have:=(List.getElem?_eq_some_iff.1 hp).1;omega) hp).1
  ·exact (okL' i p (by have:=(List.getElem?_eq_some_iff.1 hp).1;omega) hp).2 k q hk hq
 have hd:decide (1<=(mT:Int)/\(mT:Int)<=6)=true:=by simp;omega
 have S1:∀ (cs:Array Value) (vs:Value) (w1:World),Fr (fun k=>k=x) (w.alloc (.cells #[.int .i64 n,.slice aT mT cT,.slice aP mP cP,.slice aL mL cL] 32)) w1->(∀ k,vs.ownBlock=some k->(w.alloc (.cells #[.int .i64 n,.slice aT mT cT,.slice aP mP cP,.slice aL mL cL] 32)).heap.size<=k)->Stage w (.cells #[.int .i64 n,.slice aT mT cT,.slice aP mP cP,.slice aL mL cL] 32) x (.slice none 0 0) (fun _=>.slice none 0 0) vs w1:=fun cs vs w1 hf hv=>⟨hf,fun k hk=>by
  rcases hk with e | e | ⟨r,_,e⟩ | e
  ·exact .inl e
  ·simp [Value.ownBlock] at e
  ·simp [Value.ownBlock] at e
  ·have:=hv k e;simp at this;exact .inr this⟩
 have HO:=hid O
 have HET:=hid ET
 have HEP:=hid EP
 have HEL:=hid EL
 have HF:=hid (And.intro FT (And.intro FQ (And.intro FL FF)))
 have HS1:=hid S1
 have HE:=hid (And.intro eT (And.intro eP eL))
 clear O ET EP EL FT FQ FL FF S1 hb iT iP iL xT xP xL okT' badT okQ' badQ okL' badL bT2 bT3 bQ2 bQ3 bL2 bL3 hlb eT eP eL
 by_cases hT:bT < mT
 ·have hnf:Hid (¬ Fits n T Q L):=fun hf=>by have:=HF.out.1 hf;omega
  go_enter Tryz.func121,Tryz.ntmps121
  go_wp2_with (first
   | (go_at_call 150;refine HO.out.mono ?_;rintro e w1 ⟨rfl,cs1,vs1,M1,F1,V1⟩;have st1:=HS1.out cs1 vs1 w1 F1 V1;have b1:=st1.box lx;have c11:w1.cell? ⟨w.heap.size,1,none⟩=some (.slice aT mT cT):=(cell_of_row w1 _ 1 _ _ _ b1).trans rfl;replace M1:=hid M1;replace st1:=hid st1;clear F1 V1 b1)
   | (go_at_call 132;refine (between_dec _ _ _ _).mono ?_;rintro e w2 ⟨rfl,rfl⟩;rw [hd])
   | (go_at_call 152;refine (HET.out cs1 _ _ vs1 _ M1.out st1.out).mono ?_;rintro e w2 hD;rcases hD with ⟨h,_⟩ | ⟨_,s,rfl,F2⟩;(exfalso;omega);replace F2:=hid (st1.out.next F2 (fun _ h=>.inl h))))
  go_ret
  exact .inr ⟨hnf.out,s,rfl,((Fr.refl _ w).alloc _).trans F2.out.fr⟩
 ·by_cases hQ:bQ < mP
  ·have hnf:Hid (¬ Fits n T Q L):=fun hf=>by have:=HF.out.2.1 hf;omega
   go_enter Tryz.func121,Tryz.ntmps121
   go_wp2_with (first
    | (go_at_call 150;refine HO.out.mono ?_;rintro e w1 ⟨rfl,cs1,vs1,M1,F1,V1⟩;have st1:=HS1.out cs1 vs1 w1 F1 V1;have b1:=st1.box lx;have c11:w1.cell? ⟨w.heap.size,1,none⟩=some (.slice aT mT cT):=(cell_of_row w1 _ 1 _ _ _ b1).trans rfl;replace M1:=hid M1;replace st1:=hid st1;clear F1 V1 b1)
    | (go_at_call 132;refine (between_dec _ _ _ _).mono ?_;rintro e w2 ⟨rfl,rfl⟩;rw [hd])
    | (go_at_call 152;refine (HET.out cs1 _ _ vs1 _ M1.out st1.out).mono ?_;rintro e w2 hD;rcases hD with ⟨_,rfl,cs2,ln2,vt2,rv2,M2,L2,F2,O2⟩ | ⟨h,_⟩;rotate_left;(exfalso;omega);have st2:=st1.out.next F2 O2;have b2:=st2.box lx;have c22:w2.cell? ⟨w.heap.size,2,none⟩=some (.slice aP mP cP):=(cell_of_row w2 _ 2 _ _ _ b2).trans rfl;replace M2:=hid M2;replace st2:=hid st2;replace L2:=hid L2;clear F2 O2 b2)
    | (go_at_call 154;refine (HEP.out ln2 cs2 vt2 rv2 vs1 _ M2.out st2.out).mono ?_;rintro e w3 hD;rcases hD with ⟨h,_⟩ | ⟨_,s,rfl,F3⟩;(exfalso;omega);replace F3:=hid (st2.out.next F3 (fun _ h=>.inl h))))
   go_ret
   exact .inr ⟨hnf.out,s,rfl,((Fr.refl _ w).alloc _).trans F3.out.fr⟩
  ·by_cases hL:bL < mL
   ·have hnf:Hid (¬ Fits n T Q L):=fun hf=>by have:=HF.out.2.2.1 hf;omega
    go_enter Tryz.func121,Tryz.ntmps121
    go_wp2_with (first
     | (go_at_call 150;refine HO.out.mono ?_;rintro e w1 ⟨rfl,cs1,vs1,M1,F1,V1⟩;have st1:=HS1.out cs1 vs1 w1 F1 V1;have b1:=st1.box lx;have c11:w1.cell? ⟨w.heap.size,1,none⟩=some (.slice aT mT cT):=(cell_of_row w1 _ 1 _ _ _ b1).trans rfl;replace M1:=hid M1;replace st1:=hid st1;clear F1 V1 b1)
     | (go_at_call 132;refine (between_dec _ _ _ _).mono ?_;rintro e w2 ⟨rfl,rfl⟩;rw [hd])
     | (go_at_call 152;refine (HET.out cs1 _ _ vs1 _ M1.out st1.out).mono ?_;rintro e w2 hD;rcases hD with ⟨_,rfl,cs2,ln2,vt2,rv2,M2,L2,F2,O2⟩ | ⟨h,_⟩;rotate_left;(exfalso;omega);have st2:=st1.out.next F2 O2;have b2:=st2.box lx;have c22:w2.cell? ⟨w.heap.size,2,none⟩=some (.slice aP mP cP):=(cell_of_row w2 _ 2 _ _ _ b2).trans rfl;replace M2:=hid M2;replace st2:=hid st2;replace L2:=hid L2;clear F2 O2 b2)
     | (go_at_call 154;refine (HEP.out ln2 cs2 vt2 rv2 vs1 _ M2.out st2.out).mono ?_;rintro e w3 hD;rcases hD with ⟨_,rfl,M3,F3⟩ | ⟨h,_⟩;rotate_left;(exfalso;omega);have st3:=st2.out.next F3 (fun _ h=>.inl h);have b3:=st3.box lx;have c33:w3.cell? ⟨w.heap.size,3,none⟩=some (.slice aL mL cL):=(cell_of_row w3 _ 3 _ _ _ b3).trans rfl;replace M3:=hid M3;replace st3:=hid st3;clear F3 b3)
     | (go_at_call 156;refine (HEL.out ln2 cs2 vt2 rv2 vs1 _ M3.out st3.out).mono ?_;rintro e w4 hD;rcases hD with ⟨h,_⟩ | ⟨_,s,rfl,F4⟩;(exfalso;omega);replace F4:=hid (st3.out.next F4 (fun _ h=>.inl h))))
    go_ret
    exact .inr ⟨hnf.out,s,rfl,((Fr.refl _ w).alloc _).trans F4.out.fr⟩
   ·have hf:Hid (Fits n T Q L):=HF.out.2.2.2 (by omega) (by omega) (by omega)
    go_enter Tryz.func121,Tryz.ntmps121
    go_wp2_with (first
     | (go_at_call 150;refine HO.out.mono ?_;rintro e w1 ⟨rfl,cs1,vs1,M1,F1,V1⟩;have st1:=HS1.out cs1 vs1 w1 F1 V1;have b1:=st1.box lx;have c11:w1.cell? ⟨w.heap.size,1,none⟩=some (.slice aT mT cT):=(cell_of_row w1 _ 1 _ _ _ b1).trans rfl;replace M1:=hid M1;replace st1:=hid st1;clear F1 V1 b1)
     | (go_at_call 132;refine (between_dec _ _ _ _).mono ?_;rintro e w2 ⟨rfl,rfl⟩;rw [hd])
     | (go_at_call 152;refine (HET.out cs1 _ _ vs1 _ M1.out st1.out).mono ?_;rintro e w2 hD;rcases hD with ⟨_,rfl,cs2,ln2,vt2,rv2,M2,L2,F2,O2⟩ | ⟨h,_⟩;rotate_left;(exfalso;omega);have st2:=st1.out.next F2 O2;have b2:=st2.box lx;have c22:w2.cell? ⟨w.heap.size,2,none⟩=some (.slice aP mP cP):=(cell_of_row w2 _ 2 _ _ _ b2).trans rfl;replace M2:=hid M2;replace st2:=hid st2;replace L2:=hid L2;clear F2 O2 b2)
     | (go_at_call 154;refine (HEP.out ln2 cs2 vt2 rv2 vs1 _ M2.out st2.out).mono ?_;rintro e w3 hD;rcases hD with ⟨_,rfl,M3,F3⟩ | ⟨h,_⟩;rotate_left;(exfalso;omega);have st3:=st2.out.next F3 (fun _ h=>.inl h);have b3:=st3.box lx;have c33:w3.cell? ⟨w.heap.size,3,none⟩=some (.slice aL mL cL):=(cell_of_row w3 _ 3 _ _ _ b3).trans rfl;replace M3:=hid M3;replace st3:=hid st3;clear F3 b3)
     | (go_at_call 156;refine (HEL.out ln2 cs2 vt2 rv2 vs1 _ M3.out st3.out).mono ?_;rintro e w4 hD;rcases hD with ⟨_,rfl,M4,F4⟩ | ⟨h,_⟩;rotate_left;(exfalso;omega);have st4:=hid (st3.out.next F4 (fun _ h=>.inl h));replace M4:=hid M4;clear F4))
    go_ret
    exact .inl ⟨hf.out,rfl,cs2,ln2,vt2,rv2,vs1,M4.out,L2.out,st4.out⟩
open Go.RowKit
abbrev nilS:Value:=.slice none 0 0
theorem mNew_yes (n:Nat) (aT aP aL:Option Addr) (mT mP mL cT cP cL:Nat) (T:List (Int×Int)) (Q L:List (Int×Int×Int×Int)) (w:World) (iT:Inl w 2 (.slice aT mT cT) (T.map tRow)) (iP:Inl w 4 (.slice aP mP cP) (Q.map qRow)) (iL:Inl w 4 (.slice aL mL cL) (L.map qRow))
  (eT:T.length=mT) (eP:Q.length=mP) (eL:L.length=mL) (hf:Fits n T Q L) :
  Calls Tryz.prog 77 #[.agg #[.int .i64 n,.slice aT mT cT,.slice aP mP cP,.slice aL mL cL]] w fun e w'=>∃ (x:Nat) (ln:Nat->List Nat) (vt:Value) (rv:Nat->Value) (vs:Value),e=.returned (.tuple #[.agg (mcells 0 vt (rv 0) (rv 1) (rv 2) (rv 3) vs),.nilIface])/\MAt w' x 109 (mcells 0 vt (rv 0) (rv 1) (rv 2) (rv 3) vs) c00 (born 0 T) n Q L ln vt rv vs/\Lined (born 0 T) T.length ln/\Below w.heap.size w w'/\∀ k,MOwn x vt rv vs k->w.heap.size<=k:=by
 obtain ⟨⟨s1,s3⟩,⟨t1,t6⟩,hf'⟩:=id hf
 have B:=build_any (w.heap.size+1+1) n aT aP aL mT mP mL cT cP cL T Q L (((w.alloc (.cells #[.int .i64 n,.slice aT mT cT,.slice aP mP cP,.slice aL mL cL] 32)).alloc (.cells (mcells 0 nilS nilS nilS nilS nilS nilS) 109)).alloc (.cells (mcells 0 nilS nilS nilS nilS nilS nilS) 109))
  (((iT.alloc (by omega) _).alloc (by omega) _).alloc (by omega) _) (((iP.alloc (by omega) _).alloc (by omega) _).alloc (by omega) _) (((iL.alloc (by omega) _).alloc (by omega) _).alloc (by omega) _) (by simp) eT eP eL
  (fun k hk=>by have:=iT.inlt (by omega) hk;omega) (fun k hk=>by have:=iP.inlt (by omega) hk;omega) (fun k hk=>by have:=iL.inlt (by omega) hk;omega)
  (by have:=heap_alloc_new ((w.alloc (.cells #[.int .i64 n,.slice aT mT cT,.slice aP mP cP,.slice aL mL cL] 32)).alloc (.cells (mcells 0 nilS nilS nilS nilS nilS nilS) 109)) (.cells (mcells 0 nilS nilS nilS nilS nilS nilS) 109);simpa using this) (by omega) (by omega) (by omega) (by omega)
 have HB:=hid (And.intro B hf)
 clear B hf hf' iT iP iL eT eP eL
 go_enter Tryz.func77,Tryz.ntmps77
 go_wp2_with fail
 refine HB.out.1.mono ?_
 rintro e w4 hD
 rcases hD with ⟨_,rfl,cs,ln,vt,rv,vs,M,Ln,St⟩ | ⟨h,_⟩
 rotate_left
 ·exact absurd HB.out.2 h
 obtain ⟨a1,n1,c1,e1⟩:∃ a n c,vt=.slice a n c:=by obtain ⟨a,c,h⟩:=M.th.slice;exact ⟨_,_,_,h⟩
 obtain ⟨b0,k0,d0,e20⟩:∃ a n c,rv 0=.slice a n c:=by obtain ⟨a,c,h⟩:=(M.li 0 (by omega)).slice;exact ⟨_,_,_,h⟩
 obtain ⟨b1,k1,d1,e21⟩:∃ a n c,rv 1=.slice a n c:=by obtain ⟨a,c,h⟩:=(M.li 1 (by omega)).slice;exact ⟨_,_,_,h⟩
 obtain ⟨b2,k2,d2,e22⟩:∃ a n c,rv 2=.slice a n c:=by obtain ⟨a,c,h⟩:=(M.li 2 (by omega)).slice;exact ⟨_,_,_,h⟩
 obtain ⟨b3,k3,d3,e23⟩:∃ a n c,rv 3=.slice a n c:=by obtain ⟨a,c,h⟩:=(M.li 3 (by omega)).slice;exact ⟨_,_,_,h⟩
 obtain ⟨a6,n6,c6,e6⟩:∃ a n c,vs=.slice a n c:=by obtain ⟨a,c,h⟩:=M.sp.slice;exact ⟨_,_,_,h⟩
 have ecs:=M.cs_eq
 subst ecs
 have em:mcells 0 vt (rv 0) (rv 1) (rv 2) (rv 3) vs=#[.int .u64 0,.slice a1 n1 c1,.slice b0 k0 d0,.slice b1 k1 d1,.slice b2 k2 d2,.slice b3 k3 d3,.slice a6 n6 c6,.int .i64 0,.int .i64 0,.int .i64 0,.int .i64 0,.int .i64 0,.int .i64 0,.int .i64 0,.int .i64 0,.int .i64 0,.int .i64 0,.int .i64 0,.int .i64 0,.int .i64 0,.int .i64 0,.int .i64 0,.int .i64 0,.int .i64 0,.int .i64 0,.int .i64 0,.int .i64 0,.int .i64 0,.int .i64 0,.int .i64 0,.int .i64 0,.int .i64 0,.int .i64 0,.int .i64 0,.int .i64 0,.int .i64 0,.int .i64 0,.int .i64 0,.int .i64 0]:=by rw [e1,e20,e21,e22,e23,e6];rfl
 have hblk:=M.blk
 rw [em] at hblk
 have R:w4.rangeAt (w.heap.size+1+1) 0 [.int .u64 0,.slice a1 n1 c1,.slice b0 k0 d0,.slice b1 k1 d1,.slice b2 k2 d2,.slice b3 k3 d3,.slice a6 n6 c6,.int .i64 0,.int .i64 0,.int .i64 0,.int .i64 0,.int .i64 0,.int .i64 0,.int .i64 0,.int .i64 0,.int .i64 0,.int .i64 0,.int .i64 0,.int .i64 0,.int .i64 0,.int .i64 0,.int .i64 0,.int .i64 0,.int .i64 0,.int .i64 0,.int .i64 0,.int .i64 0,.int .i64 0,.int .i64 0,.int .i64 0,.int .i64 0,.int .i64 0,.int .i64 0,.int .i64 0,.int .i64 0,.int .i64 0,.int .i64 0,.int .i64 0,.int .i64 0]:=fun j v hv=>by
  rw [cell_of_row w4 _ (0+j) _ _ _ hblk,Nat.zero_add,List.getElem?_toArray];exact hv
 have hres:w4.heap[w.heap.size+1]? = some (.cells (mcells 0 nilS nilS nilS nilS nilS nilS) 109 (0,0)):=by
  rw [St.fr.block _ (by simp) (by omega),Below.heap_alloc _ _ _ (by simp),Below.heap_alloc _ _ _ (by simp)]
  have:=heap_alloc_new (w.alloc (.cells #[.int .i64 n,.slice aT mT cT,.slice aP mP cP,.slice aL mL cL] 32)) (.cells (mcells 0 nilS nilS nilS nilS nilS nilS) 109)
  simpa using this
 have HH:=hid (And.intro M (And.intro Ln (And.intro St (And.intro em (And.intro R (And.intro hres hblk))))))
 clear M Ln St e1 e20 e21 e22 e23 e6 em hblk R hres
 go_wp2_with (first
  | (with_reducible (show wpList _ _ _ (⟨_,.load 109 _,_,_,_,none⟩ :: _) _ _);go_must (refine wpList_load_mid rfl 109 _ rfl (w.heap.size+1+1) 0 rfl _ _ HH.out.2.2.2.2.1 Tryz.underlying109 rfl (by kernel_rfl) ?_))
  | (with_reducible (show wpList _ _ _ (⟨_,.store 109 _ _,_,_,_,none⟩ :: _) _ _);go_must (refine wpList_store_row rfl 109 _ _ rfl (w.heap.size+1) #[.int .u64 0,.slice a1 n1 c1,.slice b0 k0 d0,.slice b1 k1 d1,.slice b2 k2 d2,.slice b3 k3 d3,.slice a6 n6 c6,.int .i64 0,.int .i64 0,.int .i64 0,.int .i64 0,.int .i64 0,.int .i64 0,.int .i64 0,.int .i64 0,.int .i64 0,.int .i64 0,.int .i64 0,.int .i64 0,.int .i64 0,.int .i64 0,.int .i64 0,.int .i64 0,.int .i64 0,.int .i64 0,.int .i64 0,.int .i64 0,.int .i64 0,.int .i64 0,.int .i64 0,.int .i64 0,.int .i64 0,.int .i64 0,.int .i64 0,.int .i64 0,.int .i64 0,.int .i64 0,.int .i64 0,.int .i64 0] (by simp [Act.eval,Act.put]) rfl 109 _ HH.out.2.2.2.2.2.1 (by kernel_rfl) rfl ?_ ?_);(simp [Value.oneCell'])))
 have St:=HH.out.2.2.1
 have hg:=setRow_heap w4 (w.heap.size+1) _ #[.int .u64 0,.slice a1 n1 c1,.slice b0 k0 d0,.slice b1 k1 d1,.slice b2 k2 d2,.slice b3 k3 d3,.slice a6 n6 c6,.int .i64 0,.int .i64 0,.int .i64 0,.int .i64 0,.int .i64 0,.int .i64 0,.int .i64 0,.int .i64 0,.int .i64 0,.int .i64 0,.int .i64 0,.int .i64 0,.int .i64 0,.int .i64 0,.int .i64 0,.int .i64 0,.int .i64 0,.int .i64 0,.int .i64 0,.int .i64 0,.int .i64 0,.int .i64 0,.int .i64 0,.int .i64 0,.int .i64 0,.int .i64 0,.int .i64 0,.int .i64 0,.int .i64 0,.int .i64 0,.int .i64 0,.int .i64 0] 109 (0,0) HH.out.2.2.2.2.2.1
 have F:Fr (fun k=>k=w.heap.size+1) w4 (w4.setRow (w.heap.size+1) #[.int .u64 0,.slice a1 n1 c1,.slice b0 k0 d0,.slice b1 k1 d1,.slice b2 k2 d2,.slice b3 k3 d3,.slice a6 n6 c6,.int .i64 0,.int .i64 0,.int .i64 0,.int .i64 0,.int .i64 0,.int .i64 0,.int .i64 0,.int .i64 0,.int .i64 0,.int .i64 0,.int .i64 0,.int .i64 0,.int .i64 0,.int .i64 0,.int .i64 0,.int .i64 0,.int .i64 0,.int .i64 0,.int .i64 0,.int .i64 0,.int .i64 0,.int .i64 0,.int .i64 0,.int .i64 0,.int .i64 0,.int .i64 0,.int .i64 0,.int .i64 0,.int .i64 0,.int .i64 0,.int .i64 0,.int .i64 0]):=(Fr.refl (fun k=>k=w.heap.size+1) w4).setRow (fun _=>rfl) _
 have hmo:∀ k,MOwn (w.heap.size+1+1) vt rv vs k->w.heap.size+2<=k:=fun k hk=>by
  rcases St.own k hk with e | e
  ·omega
  ·simp at e;omega
 refine bodyPost_ret (results_row_tmp Tryz.results77 _ _ (w.heap.size+1) 109 _ (0,0) _ _ rfl hg Tryz.underlying109 rfl (by kernel_rfl) rfl) rfl ⟨w.heap.size+1+1,ln,vt,rv,vs,by rw [HH.out.2.2.2.1];rfl,HH.out.1.kept F (fun k hk e=>by have:=hmo k hk;omega),HH.out.2.1,?_,fun k hk=>by have:=hmo k hk;omega⟩
 have F0:Below w.heap.size w (((w.alloc (.cells #[.int .i64 n,.slice aT mT cT,.slice aP mP cP,.slice aL mL cL] 32)).alloc (.cells (mcells 0 nilS nilS nilS nilS nilS nilS) 109)).alloc (.cells (mcells 0 nilS nilS nilS nilS nilS nilS) 109)):=
  (((Below.refl _ w).alloc (Nat.le_refl _) _).alloc (by simp) _).alloc (by simp;omega) _
 have F1:=(Fr.refl (fun k=>k=w.heap.size+1+1) _).alloc _ |>.trans St.fr
 refine F0.trans ((F1.to_below (by simp;omega) (fun k e=>by omega)).trans (F.to_below ?_ (fun k e=>by omega)))
 have:=F1.size
 simp at this
 omega
open Go.RowKit
theorem mNew_se (sp:Int) (aT aP aL:Option Addr) (mT mP mL cT cP cL:Nat) (T:List (Int×Int)) (Q L:List (Int×Int×Int×Int)) (w:World) (iT:Inl w 2 (.slice aT mT cT) (T.map tRow)) (_iP:Inl w 4 (.slice aP mP cP) (Q.map qRow)) (_iL:Inl w 4 (.slice aL mL cL) (L.map qRow)) (_eT:T.length=mT) (_eP:Q.length=mP) (_eL:L.length=mL) (hbad:¬ (1<=sp/\sp<=3)\/¬ (1<=T.length/\T.length<=6)) :
  Calls Tryz.prog 77 #[.agg #[.int .i64 sp,.slice aT mT cT,.slice aP mP cP,.slice aL mL cL]] w fun e w'=>∃ s,e=.returned (.tuple #[.agg (mcells 0 nilS nilS nilS nilS nilS nilS),.iface 166 (.agg #[.string s,.iface 160 (.agg #[.int .i64 1])])])/\Below w.heap.size w w':=by
 have B:=build_se (w.heap.size+1+1) sp (.slice aT mT cT) (.slice aP mP cP) (.slice aL mL cL) T (((w.alloc (.cells #[.int .i64 sp,.slice aT mT cT,.slice aP mP cP,.slice aL mL cL] 32)).alloc (.cells (mcells 0 nilS nilS nilS nilS nilS nilS) 109)).alloc (.cells (mcells 0 nilS nilS nilS nilS nilS nilS) 109))
  (((iT.alloc (by omega) _).alloc (by omega) _).alloc (by omega) _) ⟨_,_,_,rfl⟩ ⟨_,_,_,rfl⟩ (by simp)
  (by have:=heap_alloc_new ((w.alloc (.cells #[.int .i64 sp,.slice aT mT cT,.slice aP mP cP,.slice aL mL cL] 32)).alloc (.cells (mcells 0 nilS nilS nilS nilS nilS nilS) 109)) (.cells (mcells 0 nilS nilS nilS nilS nilS nilS) 109);simpa using this) hbad
 have HB:=hid B
 clear B hbad iT _iP _iL _eT _eP _eL
 go_enter Tryz.func77,Tryz.ntmps77
 go_wp2_with fail
 refine HB.out.mono ?_
 rintro e w4 ⟨rfl,F4⟩
 have hres:w4.heap[w.heap.size+1]? = some (.cells (mcells 0 nilS nilS nilS nilS nilS nilS) 109 (0,0)):=by
  rw [F4.block _ (by simp) (by omega),Below.heap_alloc _ _ _ (by simp)]
  have:=heap_alloc_new (w.alloc (.cells #[.int .i64 sp,.slice aT mT cT,.slice aP mP cP,.slice aL mL cL] 32)) (.cells (mcells 0 nilS nilS nilS nilS nilS nilS) 109)
  simpa using this
 have HH:=hid (And.intro F4 hres)
 clear F4 hres
 go_wp2_with (with_reducible (show wpList _ _ _ (⟨_,.store 109 _ _,_,_,_,none⟩ :: _) _ _);go_must (refine wpList_store_row rfl 109 _ _ rfl (w.heap.size+1) #[.int .u64 0,.slice none 0 0,.slice none 0 0,.slice none 0 0,.slice none 0 0,.slice none 0 0,.slice none 0 0,.int .i64 0,.int .i64 0,.int .i64 0,.int .i64 0,.int .i64 0,.int .i64 0,.int .i64 0,.int .i64 0,.int .i64 0,.int .i64 0,.int .i64 0,.int .i64 0,.int .i64 0,.int .i64 0,.int .i64 0,.int .i64 0,.int .i64 0,.int .i64 0,.int .i64 0,.int .i64 0,.int .i64 0,.int .i64 0,.int .i64 0,.int .i64 0,.int .i64 0,.int .i64 0,.int .i64 0,.int .i64 0,.int .i64 0,.int .i64 0,.int .i64 0,.int .i64 0] (by simp [Act.eval]) rfl 109 _ HH.out.2 (by kernel_rfl) rfl ?_ ?_);(simp [Value.oneCell']))
 have hg:=setRow_heap w4 (w.heap.size+1) _ #[.int .u64 0,.slice none 0 0,.slice none 0 0,.slice none 0 0,.slice none 0 0,.slice none 0 0,.slice none 0 0,.int .i64 0,.int .i64 0,.int .i64 0,.int .i64 0,.int .i64 0,.int .i64 0,.int .i64 0,.int .i64 0,.int .i64 0,.int .i64 0,.int .i64 0,.int .i64 0,.int .i64 0,.int .i64 0,.int .i64 0,.int .i64 0,.int .i64 0,.int .i64 0,.int .i64 0,.int .i64 0,.int .i64 0,.int .i64 0,.int .i64 0,.int .i64 0,.int .i64 0,.int .i64 0,.int .i64 0,.int .i64 0,.int .i64 0,.int .i64 0,.int .i64 0,.int .i64 0] 109 (0,0) HH.out.2
 have F:Fr (fun k=>k=w.heap.size+1) w4 (w4.setRow (w.heap.size+1) #[.int .u64 0,.slice none 0 0,.slice none 0 0,.slice none 0 0,.slice none 0 0,.slice none 0 0,.slice none 0 0,.int .i64 0,.int .i64 0,.int .i64 0,.int .i64 0,.int .i64 0,.int .i64 0,.int .i64 0,.int .i64 0,.int .i64 0,.int .i64 0,.int .i64 0,.int .i64 0,.int .i64 0,.int .i64 0,.int .i64 0,.int .i64 0,.int .i64 0,.int .i64 0,.int .i64 0,.int .i64 0,.int .i64 0,.int .i64 0,.int .i64 0,.int .i64 0,.int .i64 0,.int .i64 0,.int .i64 0,.int .i64 0,.int .i64 0,.int .i64 0,.int .i64 0,.int .i64 0]):=(Fr.refl (fun k=>k=w.heap.size+1) w4).setRow (fun _=>rfl) _
 refine bodyPost_ret (results_row_tmp Tryz.results77 _ _ (w.heap.size+1) 109 _ (0,0) _ _ rfl hg Tryz.underlying109 rfl (by kernel_rfl) rfl) rfl ⟨_,rfl,?_⟩
 have F0:Below w.heap.size w (((w.alloc (.cells #[.int .i64 sp,.slice aT mT cT,.slice aP mP cP,.slice aL mL cL] 32)).alloc (.cells (mcells 0 nilS nilS nilS nilS nilS nilS) 109)).alloc (.cells (mcells 0 nilS nilS nilS nilS nilS nilS) 109)):=
  (((Below.refl _ w).alloc (Nat.le_refl _) _).alloc (by simp) _).alloc (by simp;omega) _
 refine F0.trans ((HH.out.1.to_below (by simp;omega) (fun k e=>by omega)).trans (F.to_below ?_ (fun k e=>by omega)))
 have:=HH.out.1.size
 simp at this
 omega
theorem mNew_me (sp:Int) (aT aP aL:Option Addr) (mT mP mL cT cP cL:Nat) (T:List (Int×Int)) (Q L:List (Int×Int×Int×Int)) (w:World) (iT:Inl w 2 (.slice aT mT cT) (T.map tRow)) (iP:Inl w 4 (.slice aP mP cP) (Q.map qRow)) (iL:Inl w 4 (.slice aL mL cL) (L.map qRow)) (eT:T.length=mT) (eP:Q.length=mP) (eL:L.length=mL) (h1:1<=sp/\sp<=3) (h2:1<=T.length/\T.length<=6) (hnf:¬ Fits sp T Q L) :
  Calls Tryz.prog 77 #[.agg #[.int .i64 sp,.slice aT mT cT,.slice aP mP cP,.slice aL mL cL]] w fun e w'=>∃ s,(∃ s2,e=.returned (.tuple #[.agg (mcells 0 nilS nilS nilS nilS nilS nilS),.iface 166 (.agg #[.string s,.iface 166 (.agg #[.string s2,.iface 160 (.agg #[.int .i64 1])])])]))/\Below w.heap.size w w':=by
 obtain ⟨n,rfl⟩:=Int.eq_ofNat_of_zero_le (show 0<=sp by omega)
 have B:=build_any (w.heap.size+1+1) n aT aP aL mT mP mL cT cP cL T Q L (((w.alloc (.cells #[.int .i64 n,.slice aT mT cT,.slice aP mP cP,.slice aL mL cL] 32)).alloc (.cells (mcells 0 nilS nilS nilS nilS nilS nilS) 109)).alloc (.cells (mcells 0 nilS nilS nilS nilS nilS nilS) 109))
  (((iT.alloc (by omega) _).alloc (by omega) _).alloc (by omega) _) (((iP.alloc (by omega) _).alloc (by omega) _).alloc (by omega) _) (((iL.alloc (by omega) _).alloc (by omega) _).alloc (by omega) _) (by simp) eT eP eL
  (fun k hk=>by have:=iT.inlt (by omega) hk;omega) (fun k hk=>by have:=iP.inlt (by omega) hk;omega) (fun k hk=>by have:=iL.inlt (by omega) hk;omega)
  (by have:=heap_alloc_new ((w.alloc (.cells #[.int .i64 n,.slice aT mT cT,.slice aP mP cP,.slice aL mL cL] 32)).alloc (.cells (mcells 0 nilS nilS nilS nilS nilS nilS) 109)) (.cells (mcells 0 nilS nilS nilS nilS nilS nilS) 109);simpa using this) (by omega) (by omega) (by omega) (by omega)
 have HB:=hid (And.intro B hnf)
 clear B hnf iT iP iL eT eP eL
 go_enter Tryz.func77,Tryz.ntmps77
 go_wp2_with fail
 refine HB.out.1.mono ?_
 rintro e w4 hD
 rcases hD with ⟨h,_⟩ | ⟨_,s2,rfl,F4⟩
 ·exact absurd h HB.out.2
 have hres:w4.heap[w.heap.size+1]? = some (.cells (mcells 0 nilS nilS nilS nilS nilS nilS) 109 (0,0)):=by
  rw [F4.block _ (by simp) (by omega),Below.heap_alloc _ _ _ (by simp)]
  have:=heap_alloc_new (w.alloc (.cells #[.int .i64 n,.slice aT mT cT,.slice aP mP cP,.slice aL mL cL] 32)) (.cells (mcells 0 nilS nilS nilS nilS nilS nilS) 109)
  simpa using this
 have HH:=hid (And.intro F4 hres)
 clear F4 hres
 go_wp2_with (with_reducible (show wpList _ _ _ (⟨_,.store 109 _ _,_,_,_,none⟩ :: _) _ _);go_must (refine wpList_store_row rfl 109 _ _ rfl (w.heap.size+1) #[.int .u64 0,.slice none 0 0,.slice none 0 0,.slice none 0 0,.slice none 0 0,.slice none 0 0,.slice none 0 0,.int .i64 0,.int .i64 0,.int .i64 0,.int .i64 0,.int .i64 0,.int .i64 0,.int .i64 0,.int .i64 0,.int .i64 0,.int .i64 0,.int .i64 0,.int .i64 0,.int .i64 0,.int .i64 0,.int .i64 0,.int .i64 0,.int .i64 0,.int .i64 0,.int .i64 0,.int .i64 0,.int .i64 0,.int .i64 0,.int .i64 0,.int .i64 0,.int .i64 0,.int .i64 0,.int .i64 0,.int .i64 0,.int .i64 0,.int .i64 0,.int .i64 0,.int .i64 0] (by simp [Act.eval]) rfl 109 _ HH.out.2 (by kernel_rfl) rfl ?_ ?_);(simp [Value.oneCell']))
 have hg:=setRow_heap w4 (w.heap.size+1) _ #[.int .u64 0,.slice none 0 0,.slice none 0 0,.slice none 0 0,.slice none 0 0,.slice none 0 0,.slice none 0 0,.int .i64 0,.int .i64 0,.int .i64 0,.int .i64 0,.int .i64 0,.int .i64 0,.int .i64 0,.int .i64 0,.int .i64 0,.int .i64 0,.int .i64 0,.int .i64 0,.int .i64 0,.int .i64 0,.int .i64 0,.int .i64 0,.int .i64 0,.int .i64 0,.int .i64 0,.int .i64 0,.int .i64 0,.int .i64 0,.int .i64 0,.int .i64 0,.int .i64 0,.int .i64 0,.int .i64 0,.int .i64 0,.int .i64 0,.int .i64 0,.int .i64 0,.int .i64 0] 109 (0,0) HH.out.2
 have F:Fr (fun k=>k=w.heap.size+1) w4 (w4.setRow (w.heap.size+1) #[.int .u64 0,.slice none 0 0,.slice none 0 0,.slice none 0 0,.slice none 0 0,.slice none 0 0,.slice none 0 0,.int .i64 0,.int .i64 0,.int .i64 0,.int .i64 0,.int .i64 0,.int .i64 0,.int .i64 0,.int .i64 0,.int .i64 0,.int .i64 0,.int .i64 0,.int .i64 0,.int .i64 0,.int .i64 0,.int .i64 0,.int .i64 0,.int .i64 0,.int .i64 0,.int .i64 0,.int .i64 0,.int .i64 0,.int .i64 0,.int .i64 0,.int .i64 0,.int .i64 0,.int .i64 0,.int .i64 0,.int .i64 0,.int .i64 0,.int .i64 0,.int .i64 0,.int .i64 0]):=(Fr.refl (fun k=>k=w.heap.size+1) w4).setRow (fun _=>rfl) _
 refine bodyPost_ret (results_row_tmp Tryz.results77 _ _ (w.heap.size+1) 109 _ (0,0) _ _ rfl hg Tryz.underlying109 rfl (by kernel_rfl) rfl) rfl ⟨_,⟨s2,rfl⟩,?_⟩
 have F0:Below w.heap.size w (((w.alloc (.cells #[.int .i64 n,.slice aT mT cT,.slice aP mP cP,.slice aL mL cL] 32)).alloc (.cells (mcells 0 nilS nilS nilS nilS nilS nilS) 109)).alloc (.cells (mcells 0 nilS nilS nilS nilS nilS nilS) 109)):=
  (((Below.refl _ w).alloc (Nat.le_refl _) _).alloc (by simp) _).alloc (by simp;omega) _
 refine F0.trans ((HH.out.1.to_below (by simp;omega) (fun k e=>by omega)).trans (F.to_below ?_ (fun k e=>by omega)))
 have:=HH.out.1.size
 simp at this
 omega
open Go.RowKit
theorem run_append_empty {P:Program}(w:World) (t ty e:TypeId) (i:TypeInfo) (ht:P.underlying t=some (.slice e)) (hi:P.info? e=some i) (g:Nat) (a:Option Addr) (c:Nat) :
  (Builtin.append_ #[t,t] ty #[.slice (some ⟨g,0,none⟩) 0 0,.slice a 0 c]).run P w=.ok (.slice (some ⟨g,0,none⟩) 0 0) w:=by
 cases a <;> simp [Builtin.append_,run_underlying ht,sizeOf,typeInfo,hi,Builtin.lenOf,Builtin.firstCells,loadCells,loadCellsFrom,storeCells]
theorem wpList_append_empty {P:Program}(w:World){ops:Array Oper}{rest:List Oper}{o:Oper}{ac:Act}{Q:Exit->Act->World->Prop}(hgd:o.guard=none) (s x:Operand) (t:TypeId)
  (ho:o.op=.call { callee:=.builtin .append,args:=#[s,x],argTypes:=#[t,t] })
  (e:TypeId) (i:TypeInfo) (ht:P.underlying t=some (.slice e)) (hi:P.info? e=some i) (g:Nat) (hs:ac.eval s=.slice (some ⟨g,0,none⟩) 0 0)
  (a:Option Addr) (c:Nat) (hx:ac.eval x=.slice a 0 c)
  (h:wpList P ops Q rest (ac.put o.dst (.slice (some ⟨g,0,none⟩) 0 0)) w):wpList P ops Q (o :: rest) ac w:=by
 have hr:=run_append_empty (P:=P) w t o.type e i ht hi g a c
 refine wpList_plain hgd fun _ hK=>?_
 unfold Oper.wp execOp
 simp only [ho,resolve,invoke,builtin,Sem.run_bind,Sem.run_pure,Result.andThen_ok,List.map_toArray,List.map_cons,List.map_nil,hs,hx,hr]
 exact hK _ _ h
theorem sl_new0 (w:World):Sl (w.alloc (.cells #[] 2)) 2 1 (.slice (some ⟨w.heap.size,0,none⟩) 0 0) []:=
 ⟨⟨by simp,.inr ⟨w.heap.size,0,#[],rfl,Nat.zero_le _,heap_alloc_new w _,Nat.le_refl _,by simp,by simp,by simp⟩⟩,by simp⟩
theorem clone_any (a:Option Addr) (n c:Nat) (l:List Int) (w:World) (h:Inl w 1 (.slice a n c) (l.map lnI)) (hl:l.length<=1000) :
  Calls Tryz.prog 120 #[.slice a n c] w fun e w'=>∃ a' n' c',e=.returned (.slice a' n' c')/\Sl w' 2 1 (.slice a' n' c') (l.map lnI)/\Below w.heap.size w w'/\∀ b,Value.ownBlock (.slice a' n' c')=some b->w.heap.size<=b:=by
 have he:∀ w,(binOp .eql 39 (.slice a n c) (.slice none 0 0)).run Tryz.prog w=.ok (.bool a.isNone) w:=fun w=>Go.Lib.run_eql_slice_nil w 39 2 a n c 0 0 Tryz.underlying39
 obtain ⟨i0,hi0,hz0,hz1,hz2⟩:=info_parts Tryz.infoN2
 cases a with
 | none=>
  have e0:l=[]:=by
   obtain ⟨a0,c0,ev,_,hr⟩:=h.form
   simp only [Value.slice.injEq] at ev
   rcases hr with hr | ⟨b,off,hr,_⟩
   ·simpa using hr
   ·rw [hr] at ev;simp at ev
  subst e0
  clear h
  go_enter Tryz.func120,Tryz.ntmps120
  go_wp2
  go_ret
  exact ⟨_,_,_,rfl,Sl.nil _ _ _,Below.refl _ _,fun b hb=>by simp [Value.ownBlock] at hb⟩
 | some p=>
  obtain ⟨a0,c0,ev,hm,hr⟩:=h.form
  simp only [Value.slice.injEq,List.length_map] at ev
  obtain ⟨ea,en,rfl⟩:=ev
  cases l with
  | nil=>
   have e0:n=0:=en
   subst e0
   clear h hr en hm hl ea
   go_enter Tryz.func120,Tryz.ntmps120
   go_wp2_with (at_builtin;go_must (refine wpList_append_empty _ rfl _ _ 39 rfl 2 i0 Tryz.underlying39 hi0 w.heap.size rfl (some p) c rfl ?_))
   go_ret
   exact ⟨_,_,_,rfl,sl_new0 w,(Below.refl _ w).alloc (Nat.le_refl _) _,fun b hb=>by simp [Value.ownBlock] at hb;omega⟩
  | cons x xs=>
   rcases hr with hr | ⟨b,off,e2,hr⟩
   ·simp at hr
   ·rw [e2] at ea
    cases ea
    have HH:=hid (And.intro (And.intro h en) hr)
    clear h hr e2 en
    go_enter Tryz.func120,Tryz.ntmps120
    go_wp2_with (at_builtin;go_must (refine wpList_append_sl _ rfl _ _ 39 rfl 2 i0 _ 1 8 Tryz.underlying39 hi0 hz0 hz1 hz2 rfl (by decide) (.slice (some ⟨w.heap.size,0,none⟩) 0 0) [] rfl (sl_new0 w) ⟨b,off,none⟩ n c ((x :: xs).map lnI) rfl (by rw [List.length_map];exact HH.out.1.2.symm) (by have:=HH.out.1.2;simp at this;omega) HH.out.1.1.len (fun j u hu=>by rw [Addr.add_mid];exact World.rangeAt_alloc HH.out.2 _ j u hu) (fun u hu=>by obtain ⟨y,hy,huy⟩:=List.mem_flatten.1 hu;exact HH.out.1.1.one y hy u huy) (by have:=HH.out.1.2;simp only [List.length_nil];unfold maxLen;omega) (by have:=HH.out.1.2;simp only [List.length_nil];omega) ?_);intro a4 c4 w4 G4;simp only [List.length_nil,Nat.zero_add,List.nil_append] at G4)
    go_ret
    refine ⟨_,_,_,rfl,G4.sl,(G4.fr (S:=fun k=>w.heap.size<=k) ((Fr.refl _ w).alloc _) (fun k hk _=>by simp [Value.ownBlock] at hk;omega)).to_below (Nat.le_refl _) (fun _ h=>h),fun k hk=>?_⟩
    rcases G4.at_ k hk with h | h
    ·simp at h;omega
    ·simp [Value.ownBlock] at h;omega
end Go.Proofs.YteejjgbeknnmeaaGreatDoor
