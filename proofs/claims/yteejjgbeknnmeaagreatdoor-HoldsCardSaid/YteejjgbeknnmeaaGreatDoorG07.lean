import Derived.Test.YteejjgbeknnmeaaGreatDoorG06
import Derived.Test.YteejjgbeknnmeaaGreatDoorG05
set_option maxRecDepth 100000
set_option maxHeartbeats 20000000
namespace Go.Proofs.YteejjgbeknnmeaaGreatDoor
open Go.RowKit
theorem deliver_threads {K:RM} {s t:Nat} {a x:Th} (ha:K.threads[s]? = some a) (hx:K.threads[t]? = some x):(K.deliver s t).threads=K.threads.modify t (fun u=>{ u with st:=1,time:=-1,code:=0,who:=s,ws:=a.mw,got:=(lendL K.leaves a x).2 }):=by
 simp only [RM.deliver,ha,hx,RM.upd]
theorem deliver_nums {K:RM}(s t:Nat):(K.deliver s t).first=K.first/\(K.deliver s t).last=K.last/\(K.deliver s t).clock=K.clock/\(K.deliver s t).sp=K.sp:=by
 unfold RM.deliver
 split <;> exact ⟨rfl,rfl,rfl,rfl⟩
theorem heard_threads {K:RM}{s t:Nat}{a x:Th}(stands:Bool) (ha:K.threads[s]? = some a) (hx:K.threads[t]? = some x):∃ F:Th->Th,(F x).st=1/\(K.heard s t stands).threads=K.threads.modify t F:=by
 unfold RM.heard
 cases stands with
 | true=>exact ⟨_,rfl,deliver_threads ha hx⟩
 | false=>
  refine ⟨fun u=>{ u with st:=1,time:=-1,code:=0,who:=s,ws:=a.mw,got:=(lendL K.leaves a x).2,ord:=(K.deliver s t).first },rfl,?_⟩
  show (K.deliver s t).threads.modify t _=_
  rw [deliver_threads ha hx]
  exact modify_two hx rfl
theorem modify_other {α:Type}{l:List α}{t s:Nat}(f:α->α) (h:s≠t):(l.modify t f)[s]? = l[s]?:=by
 rw [List.getElem?_modify]
 have:¬ t=s:=fun e=>h e.symm
 simp [this]
def Room (n:Nat) (K:RM):Prop:=-4611686018427387904+n<=K.first/\K.first<=4611686018427387904/\-4611686018427387904<=K.last/\K.last<=4611686018427387904-n
def RecvOk (n:Nat):Prop:=∀ (y:Nat) (K:RM) (vt vp vl:Value) (sl:List (Sv×Sv)) (t:Nat) (x:Th) (stands:Bool) (w:World),RmAt w y K vt vp vl sl->K.Fit->K.threads[t]? = some x->sending K.threads+(if x.st=2 then 0 else 1)<=n->Room n K ->
  Calls Tryz.prog 99 #[.pointer (some ⟨y,0,none⟩),.int .i64 t,.bool stands] w fun e w'=>e=.returned (.tuple #[])/\∃ vl' sl',Out y (K.recv n t stands) vt vp vl sl w w' vl' sl'
theorem rmGoes_any (n:Nat) (HR:RecvOk n) (y:Nat) (K:RM) (vt vp vl:Value) (sl:List (Sv×Sv)) (s:Nat) (z:Th) (stands:Bool) (w:World) (h:RmAt w y K vt vp vl sl) (ft:K.Fit) (hz:K.threads[s]? = some z) (hn:sending K.threads+(if z.st=2 then 0 else 1)<=n) (hr:Room n K) :
  Calls Tryz.prog 103 #[.pointer (some ⟨y,0,none⟩),.int .i64 s,.bool stands] w fun e w'=>e=.returned (.tuple #[])/\∃ vl' sl',Out y (K.goes n s stands) vt vp vl sl w w' vl' sl':=by
 obtain ⟨sz,hsz⟩:=h.sl_get hz
 have hs1:=(List.getElem?_eq_some_iff.1 hz).1
 obtain ⟨g,c,rfl,hgy,lg⟩:=h.open ft.one
 have c0:w.cell? ⟨y,0,none⟩=some (.slice (some ⟨g,0,none⟩) K.threads.length c):=(h.cell 0).trans rfl
 have g9:w.cell? ⟨g,s*20+9,none⟩=some (.int .i64 z.frm):=h.trange hz hsz 9 _ rfl
 have ly:=h.ly
 have hb:=ft.six
 have HH:=hid (And.intro h (And.intro ft (And.intro hz (And.intro hsz (And.intro hn (And.intro hr HR))))))
 obtain ⟨m,hm⟩:∃ m,K.threads.length=m:=⟨_,rfl⟩
 rw [hm] at c0 hs1 hb
 have HM:=hid hm
 have sm:(s:Int) < (m:Int):=by omega
 clear h ft hz hsz hn hr HR hm
 by_cases q:z.frm=-2
 ·have d:(z.frm != -2)=false:=by simp [q]
  have EG:K.goes n s stands=if stands=true then K.over s 0 else (K.over s 0).toLast s:=by unfold RM.goes;rw [HH.out.2.2.1];simp [q]
  have E:=hid EG
  clear q EG
  go_enter Tryz.func103,Tryz.ntmps103
  go_wp2_with fail
  refine (rmOver_any y K _ vp vl sl s sz 0 w HH.out.1 (by rw [HM.out];exact hs1) (by rw [HM.out];exact hb) HH.out.2.2.2.1).mono ?_
  rintro e w2 ⟨rfl,h2,F2⟩
  have O2:Out y (K.over s 0) (.slice (some ⟨g,0,none⟩) K.threads.length c) vp vl sl w w2 vl (sl.set s (sz.1,Sv.nil)):=⟨h2,F2.mono (fun q _ e=>.inr (.inl e)),fun _ e=>.inl e,fun k hk=>wdOwn_set HH.out.2.2.2.1 (fun k hk=>by simp [inBlock,Sv.nil] at hk) hk⟩
  have H2:=hid O2
  clear h2 F2 O2
  cases stands with
  | true=>
   go_wp2
   go_end0
   exact ⟨rfl,vl,_,by rw [E.out];exact H2.out⟩
  | false=>
   go_wp2_with fail
   refine (rmToLast_any y (K.over s 0) _ vp vl _ s w2 H2.out.at_ (by simp [RM.over,RM.upd,HM.out];exact hs1) (by simp [RM.over,RM.upd,HM.out];exact hb) HH.out.2.2.2.2.2.1.2.2.1 (by have:=HH.out.2.2.2.2.2.1.2.2.2;show K.last<=_;omega)).mono ?_
   rintro e w3 ⟨rfl,h3,F3⟩
   have H3:=hid (H2.out.trans (Out.plain h3 F3))
   clear h3 F3
   go_wp2
   go_end0
   exact ⟨rfl,vl,_,by rw [E.out];exact H3.out⟩
 ·have d:(z.frm != -2)=true:=by simp [q]
  have E:=hid (show K.goes n s stands=K.recv n s stands by unfold RM.goes;rw [HH.out.2.2.1];simp [q])
  clear q
  go_enter Tryz.func103,Tryz.ntmps103
  go_wp2_with fail
  refine (HH.out.2.2.2.2.2.2 y K _ vp vl sl s z stands w HH.out.1 HH.out.2.1 HH.out.2.2.1 HH.out.2.2.2.2.1 HH.out.2.2.2.2.2.1).mono ?_
  rintro e w2 ⟨rfl,H2⟩
  replace H2:=hid H2
  go_wp2
  ((try simp only [Exit.inBlock,Exit.then]);refine bodyPost_ret (results_none rfl _ _ _) rfl ?_)
  obtain ⟨vl2,sl2,O2⟩:=H2.out
  exact ⟨rfl,vl2,sl2,by rw [E.out];exact O2⟩
theorem rmRecv_any (n:Nat):RecvOk n:=by
 induction n with
 | zero=>
  intro y K vt vp vl sl t x stands w h ft hx hn hr
  exfalso
  by_cases e:x.st=2
  ·have:=sending_pos hx e
   omega
  ·rw [if_neg e] at hn;omega
 | succ n IH=>
  intro y K vt vp vl sl t x stands w h ft hx hn hr
  obtain ⟨sx,hsx⟩:=h.sl_get hx
  have ht1:=(List.getElem?_eq_some_iff.1 hx).1
  obtain ⟨g,c,rfl,hgy,lg⟩:=h.open ft.one
  have hb:=ft.six
  have ly:=h.ly
  have HH:=hid (And.intro h (And.intro ft (And.intro hx (And.intro hsx (And.intro hn (And.intro hr IH))))))
  obtain ⟨m,hm⟩:∃ m,K.threads.length=m:=⟨_,rfl⟩
  have HM:=hid hm
  rw [hm] at ht1 hb
  have tm:(t:Int) < (m:Int):=by omega
  clear h ft hx hsx hn hr IH hm
  go_enter Tryz.func99,Tryz.ntmps99
  go_wp2_with fail
  refine (rmSender_any y K _ vp vl sl t x w HH.out.1 (by rw [HM.out];exact hb) HH.out.2.2.1).mono ?_
  rintro e w1 ⟨rfl,B1⟩
  have H1:=hid (And.intro B1 (HH.out.1.below B1))
  have c0:w1.cell? ⟨y,0,none⟩=some (.slice (some ⟨g,0,none⟩) m c):=by rw [<- HM.out];exact ((HH.out.1.below B1).cell 0).trans rfl
  have g11:w1.cell? ⟨g,t*20+11,none⟩=some (.int .i64 x.wait):=(HH.out.1.below B1).trange HH.out.2.2.1 HH.out.2.2.2.1 11 _ rfl
  have O1:Hid (Out y K (.slice (some ⟨g,0,none⟩) K.threads.length c) vp vl sl w w1 vl sl):=Out.plain H1.out.2 (Fr.of_below B1 _)
  clear B1
  rcases senM_inv K.threads t x.frm K.threads.length (Nat.le_refl _) with e | ⟨s,a,e,hsl,hsa,h2,h3,_⟩
  ·have HE:=hid (recv_none (n:=n) (stands:=stands) HH.out.2.2.1 (show senM K.threads t x.frm K.threads.length < 0 by omega))
   rw [e]
   clear e
   by_cases q:x.wait=0
   ·have d:(x.wait != 0)=false:=by simp [q]
    have E:=hid (show K.recv (n+1) t stands=if stands=true then K.over t 5 else (K.over t 5).toLast t by rw [HE.out];simp [q])
    clear q
    go_wp2_with fail
    refine (rmOver_any y K _ vp vl sl t sx 5 w1 H1.out.2 (by rw [HM.out];exact ht1) (by rw [HM.out];exact hb) HH.out.2.2.2.1).mono ?_
    rintro e w2 ⟨rfl,h2,F2⟩
    have O2:Out y (K.over t 5) (.slice (some ⟨g,0,none⟩) K.threads.length c) vp vl sl w1 w2 vl (sl.set t (sx.1,Sv.nil)):=⟨h2,F2.mono (fun q _ e=>.inr (.inl e)),fun _ e=>.inl e,fun k hk=>wdOwn_set HH.out.2.2.2.1 (fun k hk=>by simp [inBlock,Sv.nil] at hk) hk⟩
    have H2:=hid (O1.out.trans O2)
    clear h2 F2 O2
    cases stands with
    | true=>
     go_wp2
     ((try simp only [Exit.inBlock,Exit.then]);refine bodyPost_ret (results_none rfl _ _ _) rfl ?_)
     exact ⟨rfl,vl,_,by rw [E.out];exact H2.out⟩
    | false=>
     go_wp2_with fail
     refine (rmToLast_any y (K.over t 5) _ vp vl _ t w2 H2.out.at_ (by simp [RM.over,RM.upd,HM.out];exact ht1) (by simp [RM.over,RM.upd,HM.out];exact hb) HH.out.2.2.2.2.2.1.2.2.1 (by have:=HH.out.2.2.2.2.2.1.2.2.2;show K.last<=_;omega)).mono ?_
     rintro e w3 ⟨rfl,h3,F3⟩
     have H3:=hid (H2.out.trans (Out.plain h3 F3))
     clear h3 F3
     go_wp2
     ((try simp only [Exit.inBlock,Exit.then]);refine bodyPost_ret (results_none rfl _ _ _) rfl ?_)
     exact ⟨rfl,vl,_,by rw [E.out];exact H3.out⟩
   ·have d:(x.wait != 0)=true:=by simp [q]
    have E:=hid (show K.recv (n+1) t stands=K.waits t 3 (-1) by rw [HE.out];simp [q])
    clear q
    go_wp2_with fail
    refine (rmWaits_any y K _ vp vl sl t 3 (-1) w1 H1.out.2 (by rw [HM.out];exact ht1) (by rw [HM.out];exact hb) HH.out.2.2.2.2.2.1.2.2.1 (by have:=HH.out.2.2.2.2.2.1.2.2.2;omega)).mono ?_
    rintro e w2 ⟨rfl,h2,F2⟩
    have H2:=hid (O1.out.trans (Out.plain h2 F2))
    clear h2 F2
    go_wp2
    ((try simp only [Exit.inBlock,Exit.then]);refine bodyPost_ret (results_none rfl _ _ _) rfl ?_)
    exact ⟨rfl,vl,_,by rw [E.out];exact H2.out⟩
  ·have E:=hid (recv_some (n:=n) (stands:=stands) HH.out.2.2.1 e)
   rw [e]
   have hne:s≠t:=fun q=>(HH.out.2.1.th s a hsa).ot h2 (by rw [h3,q])
   have HS:=hid (And.intro hsa (And.intro h2 hne))
   have ds:decide ((s:Int) < 0)=false:=by simp
   clear e hsl hsa h2 h3 hne
   go_wp2_with fail
   obtain ⟨rk,hk⟩:=HH.out.2.1.kin
   refine (rmDeliver_any y K _ vp vl sl s t a x w1 rk H1.out.2 (by rw [HM.out];exact hb) (by have:=HH.out.2.1.len;omega) HH.out.2.1.ap hk HS.out.1 HH.out.2.2.1 (HH.out.2.1.th t x HH.out.2.2.1).s0 (HH.out.2.1.th s a HS.out.1).mw).mono ?_
   rintro e w2 ⟨rfl,vl2,sl2,O2⟩
   have H2:=hid (O1.out.trans O2)
   clear O2 hk rk
   obtain ⟨F,F1,FT⟩:=heard_threads stands HS.out.1 HH.out.2.2.1
   have gs:(K.heard s t stands).threads[s]? = some a:=by rw [FT,modify_other F HS.out.2.2];exact HS.out.1
   have cn:=sending_modify F HH.out.2.2.1 (show (F x).st≠2 by rw [F1];omega)
   have cs:sending (K.heard s t stands).threads+(if a.st=2 then 0 else 1)<=n:=by
    rw [FT,if_pos HS.out.2.1]
    have:=HH.out.2.2.2.2.1
    by_cases q:x.st=2
    ·rw [if_pos q] at cn this;omega
    ·rw [if_neg q] at cn this;omega
   have HG:=hid (And.intro gs cs)
   have dl:(K.deliver s t).threads.length=m:=by rw [deliver_threads HS.out.1 HH.out.2.2.1];simp [HM.out]
   have HD:=hid dl
   clear F F1 FT gs cn cs dl
   cases stands with
   | true=>
    have eh:K.heard s t true=K.deliver s t:=rfl
    go_wp2_with fail
    refine (rmGoes_any n HH.out.2.2.2.2.2.2 y (K.heard s t true) _ vp vl2 sl2 s a false w2 H2.out.at_ (HH.out.2.1.heard s t true) HG.out.1 HG.out.2 (by have:=HH.out.2.2.2.2.2.1;have d:=deliver_nums (K:=K) s t;unfold Room at *;rw [eh,d.1,d.2.1];omega)).mono ?_
    rintro e w3 ⟨rfl,vl3,sl3,O3⟩
    have H3:=hid (H2.out.trans O3)
    clear O3
    go_wp2
    go_end0
    exact ⟨rfl,vl3,sl3,by rw [E.out];exact H3.out⟩
   | false=>
    have eh:K.heard s t false=(K.deliver s t).toFirst t:=rfl
    go_wp2_with fail
    refine (rmToFirst_any y (K.deliver s t) _ vp vl2 sl2 t w2 H2.out.at_ (by rw [HD.out];exact ht1) (by rw [HD.out];exact hb) (by have:=HH.out.2.2.2.2.2.1;have d:=deliver_nums (K:=K) s t;unfold Room at this;rw [d.1];omega) (by have:=HH.out.2.2.2.2.2.1;have d:=deliver_nums (K:=K) s t;unfold Room at this;rw [d.1];omega)).mono ?_
    rintro e w3 ⟨rfl,h3,F3⟩
    have H3:=hid (H2.out.trans (Out.plain h3 F3))
    clear h3 F3
    go_wp2_with fail
    refine (rmGoes_any n HH.out.2.2.2.2.2.2 y (K.heard s t false) _ vp vl2 sl2 s a false w3 H3.out.at_ (HH.out.2.1.heard s t false) HG.out.1 HG.out.2 (by have:=HH.out.2.2.2.2.2.1;have d:=deliver_nums (K:=K) s t;have e1:(K.heard s t false).first=(K.deliver s t).first-1:=rfl;have e2:(K.heard s t false).last=(K.deliver s t).last:=rfl;unfold Room at *;rw [e1,e2,d.1,d.2.1];omega)).mono ?_
    rintro e w4 ⟨rfl,vl4,sl4,O4⟩
    have H4:=hid (H3.out.trans O4)
    clear O4
    go_wp2
    go_end0
    exact ⟨rfl,vl4,sl4,by rw [E.out];exact H4.out⟩
open Go.RowKit
def RM.setLeft (K:RM) (t:Nat) (n:Int):RM:=K.upd t (fun u=>{ u with left:=n })
def RM.ticked (K:RM):RM:={ K with clock:=K.clock+1 }
def RM.tickTo (K:RM):Nat->RM
 | 0=>K
 | i+1=>
  match (K.tickTo i).threads[i]? with
  | none=>K.tickTo i
  | some x=>if x.time=(K.tickTo i).clock then ((K.tickTo i).over i 6).toLast i else K.tickTo i
def RM.spent (K:RM):RM:=
 match K.threads[K.cur.toNat]? with
 | none=>K
 | some u=>if K.cur < 0 then K else if u.left-1=0 then (K.setLeft K.cur.toNat 3).toLast K.cur.toNat else K.setLeft K.cur.toNat (u.left-1)
def RM.tick (K:RM):RM:=K.ticked.spent.tickTo K.threads.length
def RM.yield (K:RM):Int×RM:=if K.cur < 0 then (2,K) else (0,(K.setLeft K.cur.toNat 3).toLast K.cur.toNat)
theorem tickTo_same (K:RM):∀ i,(K.tickTo i).threads.length=K.threads.length/\(K.tickTo i).clock=K.clock/\K.last<=(K.tickTo i).last/\(K.tickTo i).last<=K.last+i/\(K.tickTo i).first=K.first
 | 0=>⟨rfl,rfl,Int.le_refl _,by simp [RM.tickTo],rfl⟩
 | i+1=>by
  obtain ⟨h1,h2,h3,h4,h5⟩:=tickTo_same K i
  simp only [RM.tickTo]
  split
  ·exact ⟨h1,h2,h3,by omega,h5⟩
  ·split
   ·refine ⟨by simp [RM.toLast,RM.over,RM.upd,h1],h2,?_,?_,h5⟩
    ·show K.last<=(K.tickTo i).last+1;omega
    ·show (K.tickTo i).last+1<=_;omega
   ·exact ⟨h1,h2,h3,by omega,h5⟩
theorem tickTo_yes {K:RM}{i:Nat}{x:Th}(h:(K.tickTo i).threads[i]? = some x) (ht:x.time=K.clock):K.tickTo (i+1)=((K.tickTo i).over i 6).toLast i:=by
 simp only [RM.tickTo,h];rw [if_pos (by rw [(tickTo_same K i).2.1];exact ht)]
theorem tickTo_no {K:RM}{i:Nat}{x:Th}(h:(K.tickTo i).threads[i]? = some x) (ht:x.time≠K.clock):K.tickTo (i+1)=K.tickTo i:=by
 simp only [RM.tickTo,h];rw [if_neg (by rw [(tickTo_same K i).2.1];exact ht)]
theorem RM.Fit.tickTo {K:RM}(h:K.Fit):∀ i,(K.tickTo i).Fit
 | 0=>h
 | i+1=>by
  simp only [RM.tickTo]
  split
  ·exact RM.Fit.tickTo h i
  ·split
   ·exact ((RM.Fit.tickTo h i).over i 6).toLast i
   ·exact RM.Fit.tickTo h i
theorem RM.Fit.setLeft {K:RM}(h:K.Fit) (t:Nat) (n:Int) (h1:1<=n) (h3:n<=3):(K.setLeft t n).Fit:=h.upd t _ (fun x hx=>by have f:=h.th t x hx;exact ⟨f.s0,f.s1,f.r0,f.r1,h1,h3,f.mw,f.ws,f.win,f.st,f.ot⟩)
theorem rmTick_any (y:Nat) (K:RM) (vt vp vl:Value) (sl:List (Sv×Sv)) (w:World) (h:RmAt w y K vt vp vl sl) (ft:K.Fit) (hr:Room 9 K) (k0:0<=K.clock) (k1:K.clock<=4611686018427387904) :
  Calls Tryz.prog 60 #[.pointer (some ⟨y,0,none⟩)] w fun e w'=>e=.returned (.tuple #[])/\∃ vl' sl',Out y K.tick vt vp vl sl w w' vl' sl':=by
 obtain ⟨g,c,rfl,hgy,lg⟩:=h.open ft.one
 have hb:=ft.six
 have ly:=h.ly
 have c5:w.cell? ⟨y,36,none⟩=some (.int .i64 K.clock):=(h.cell 36).trans rfl
 have fy:=h.fro
 have h0:=h.setY (K':=K.ticked) (j:=36) (x:=.int .i64 (K.clock+1)) rfl rfl rfl rfl
 have F0:Fr (Wr y (.slice (some ⟨g,0,none⟩) K.threads.length c) vp vl) w (w.setCell ⟨y,36,none⟩ (.int .i64 (K.clock+1))):=(Fr.refl _ w).setCell (p:=⟨y,36,none⟩) (fun _=>.inl rfl) _
 obtain ⟨k,hk⟩:∃ k,K.threads.length=k:=⟨_,rfl⟩
 have HK:=hid hk
 rw [hk] at hb
 have HH:=hid (And.intro h0 (And.intro F0 (And.intro ft hr)))
 clear h ft hr hk h0 F0
 go_enter Tryz.func60,Tryz.ntmps60
 go_wp2_with fail
 refine (rmCurrent_any y K.ticked _ vp vl sl _ HH.out.1 (by show K.threads.length<=6;rw [HK.out];exact hb)).mono ?_
 rintro e w1 ⟨rfl,B1⟩
 have O1:Hid (Out y K.ticked (.slice (some ⟨g,0,none⟩) K.threads.length c) vp vl sl w w1 vl sl):=Out.plain (HH.out.1.below B1) (HH.out.2.1.trans (Fr.of_below B1 _))
 clear B1
 rcases curM_inv K.threads K.threads.length (Nat.le_refl _) with e | ⟨t,u,e,ht,hu,hst⟩
 ·have EK:Hid (K.tick=K.ticked.tickTo k):=by
   unfold Hid RM.tick RM.spent
   have:K.ticked.cur < 0:=by show K.cur < 0;unfold RM.cur;omega
   split
   ·rw [HK.out]
   ·rw [if_pos this,HK.out]
  rw [show K.ticked.cur=-1 from e]
  clear e
  have HL:Hid (Out y K.ticked (.slice (some ⟨g,0,none⟩) K.threads.length c) vp vl sl w w1 vl sl/\K.ticked.threads.length=k/\-4611686018427387904<=K.ticked.last/\K.ticked.last<=4611686018427387904-9):=⟨O1.out,HK.out,HH.out.2.2.2.2.2.1,HH.out.2.2.2.2.2.2⟩
  generalize K.ticked=KF at *
  generalize w1=W0 at *
  have cx:W0.cell? ⟨y,0,none⟩=some (.slice (some ⟨g,0,none⟩) k c):=by rw [<- HK.out];exact (HL.out.1.at_.cell 0).trans rfl
  go_wp2_with fail
  go_loopw [3] (fun i wr=>∃ (j:Nat) (sl2:List (Sv×Sv)),j<=k/\i=.int .i64 j/\Hid (Out y (KF.tickTo j) (.slice (some ⟨g,0,none⟩) K.threads.length c) vp vl sl w wr vl sl2)) (fun i _=>k-(intOf i).toNat)
  case atStart=>exact ⟨0,sl,Nat.zero_le _,rfl,HL.out.1⟩
  case round=>
   obtain ⟨j,sl2,hj,rfl,HO⟩:=hrel
   have c0:wr.cell? ⟨y,0,none⟩=some (.slice (some ⟨g,0,none⟩) k c):=by rw [<- HK.out];exact (HO.out.at_.cell 0).trans rfl
   have c5:wr.cell? ⟨y,36,none⟩=some (.int .i64 KF.clock):=by have:=(HO.out.at_.cell 36).trans (show _=some (Value.int .i64 (KF.tickTo j).clock) from rfl);rw [(tickTo_same KF j).2.1] at this;exact this
   have lyr:y < wr.heap.size:=HO.out.at_.ly
   have lgr:g < wr.heap.size:=HO.out.at_.th.lt rfl
   by_cases hlt:j < k
   ·obtain ⟨x,hx⟩:∃ x,(KF.tickTo j).threads[j]? = some x:=⟨_,List.getElem?_eq_getElem (by rw [(tickTo_same KF j).1,HL.out.2.1];exact hlt)⟩
    obtain ⟨sx,hsx⟩:=HO.out.at_.sl_get hx
    have g15:wr.cell? ⟨g,j*20+15,none⟩=some (.int .i64 x.time):=HO.out.at_.trange hx hsx 15 _ rfl
    have hlt':(j:Int) < (k:Int):=by omega
    have HX:=hid (And.intro hx hsx)
    clear hx hsx
    by_cases q:x.time=KF.clock
    ·have d:(x.time == KF.clock)=true:=by simp [q]
     have E:=hid (tickTo_yes HX.out.1 q)
     clear q
     go_wp2_with fail
     go_quiet (fail)
     go_wp2_with fail
     refine (rmOver_any y (KF.tickTo j) _ vp vl sl2 j sx 6 _ (HO.out.at_.below (below_drewN (Below.refl _ wr) _)) (by rw [(tickTo_same KF j).1,HL.out.2.1];exact hlt) (by rw [(tickTo_same KF j).1,HL.out.2.1];exact hb) HX.out.2).mono ?_
     rintro e w3 ⟨rfl,h3,F3⟩
     have O3:Out y ((KF.tickTo j).over j 6) (.slice (some ⟨g,0,none⟩) K.threads.length c) vp vl sl w w3 vl (sl2.set j (sx.1,Sv.nil)):=(HO.out.trans (Out.plain (HO.out.at_.below (below_drewN (Below.refl _ wr) nq)) (Fr.of_below (below_drewN (Below.refl _ wr) nq) _))).trans ⟨h3,F3.mono (fun q _ e=>.inr (.inl e)),fun _ e=>.inl e,fun q hq=>wdOwn_set HX.out.2 (fun q hq=>by simp [inBlock,Sv.nil] at hq) hq⟩
     have H3:=hid O3
     clear h3 F3 O3
     go_wp2_with fail
     refine (rmToLast_any y ((KF.tickTo j).over j 6) _ vp vl _ j w3 H3.out.at_ (by simp [RM.over,RM.upd,(tickTo_same KF j).1,HL.out.2.1];exact hlt) (by simp [RM.over,RM.upd,(tickTo_same KF j).1,HL.out.2.1];exact hb) (by have:=(tickTo_same KF j).2.2;have:=HL.out.2.2;show _<=(KF.tickTo j).last;omega) (by have:=(tickTo_same KF j).2.2;have:=HL.out.2.2;show (KF.tickTo j).last<=_;omega)).mono ?_
     rintro e w4 ⟨rfl,h4,F4⟩
     have H4:=hid (H3.out.trans (Out.plain h4 F4))
     clear h4 F4
     go_wp2
     exact ⟨⟨j+1,_,by omega,by go_num,by rw [E.out];exact H4.out⟩,by simp [intOf];omega⟩
    ·have d:(x.time == KF.clock)=false:=by simp [q]
     have E:=hid (tickTo_no HX.out.1 q)
     clear q
     go_wp2_with fail
     go_quiet (fail)
     go_wp2
     exact ⟨⟨j+1,sl2,by omega,by go_num,by rw [E.out];exact HO.out.trans (Out.plain (HO.out.at_.below (below_drewN (Below.refl _ wr) _)) (Fr.of_below (below_drewN (Below.refl _ wr) _) _))⟩,by simp [intOf];omega⟩
   ·have hjk:j=k:=by omega
    subst hjk
    go_wp2
    go_end0
    exact ⟨rfl,vl,sl2,by rw [EK.out];exact HO.out⟩
 ·have ec:K.ticked.cur=t:=e
  rw [ec]
  have tk:t < k:=by rw [<- HK.out];exact ht
  have tk':(t:Int) < (k:Int):=by omega
  have hut:K.ticked.threads[t]? = some u:=hu
  obtain ⟨su,hsu⟩:=O1.out.at_.sl_get hut
  have c0:w1.cell? ⟨y,0,none⟩=some (.slice (some ⟨g,0,none⟩) k c):=by rw [<- HK.out];exact (O1.out.at_.cell 0).trans rfl
  have g4:w1.cell? ⟨g,t*20+4,none⟩=some (.int .i64 u.left):=O1.out.at_.trange hut hsu 4 _ rfl
  have fg:∀ j,w1.frozen? ⟨g,j,none⟩=false:=fun j=>O1.out.at_.th.fro j
  have hyg:y≠g:=fun e=>hgy e.symm
  have lg1:g < w1.heap.size:=O1.out.at_.th.lt rfl
  have ul:=HH.out.2.2.1.th t u hu
  have ul0:=ul.l0
  have ul1:=ul.l1
  have ES:K.ticked.spent=if u.left-1=0 then (K.ticked.setLeft t 3).toLast t else K.ticked.setLeft t (u.left-1):=by
   unfold RM.spent
   rw [ec,Int.toNat_natCast,hut]
   simp only
   rw [if_neg (by omega)]
  have h2:=O1.out.at_.setTh (t:=t) (j:=4) (fun v=>{ v with left:=u.left-1 }) (.int .i64 (u.left-1)) hut hsu (by omega) rfl rfl rfl
  have F2:Fr (Wr y (.slice (some ⟨g,0,none⟩) K.threads.length c) vp vl) w1 (w1.setCell ⟨g,t*20+4,none⟩ (.int .i64 (u.left-1))):=(Fr.refl _ w1).setCell (p:=⟨g,t*20+4,none⟩) (fun _=>.inr (.inl rfl)) _
  have O2:Hid (Out y (K.ticked.setLeft t (u.left-1)) (.slice (some ⟨g,0,none⟩) K.threads.length c) vp vl sl w (w1.setCell ⟨g,t*20+4,none⟩ (.int .i64 (u.left-1))) vl sl):=O1.out.trans (Out.plain h2 F2)
  have HU:=hid (And.intro hut (And.intro hsu ES))
  clear h2 F2 ul e ht hu hst ec hut hsu ES
  by_cases z:u.left-1=0
  ·have z1:(u.left-1 == 0)=true:=by simp [z]
   have Z:=hid z
   have hu3:(K.ticked.setLeft t (u.left-1)).threads[t]? = some { u with left:=u.left-1 }:=get_modify _ HU.out.1
   have h3:=O2.out.at_.setTh (t:=t) (j:=4) (fun v=>{ v with left:=3 }) (.int .i64 3) hu3 HU.out.2.1 (by omega) rfl rfl rfl
   have h3':RmAt ((w1.setCell ⟨g,t*20+4,none⟩ (.int .i64 (u.left-1))).setCell ⟨g,t*20+4,none⟩ (.int .i64 3)) y { K.ticked with threads:=(K.ticked.threads.modify t (fun v=>{ v with left:=u.left-1 })).modify t (fun v=>{ v with left:=3 }) } (.slice (some ⟨g,0,none⟩) K.threads.length c) vp vl sl:=h3
   rw [modify_two (h:=fun v=>{ v with left:=3 }) HU.out.1 rfl] at h3'
   have F3:Fr (Wr y (.slice (some ⟨g,0,none⟩) K.threads.length c) vp vl) w ((w1.setCell ⟨g,t*20+4,none⟩ (.int .i64 (u.left-1))).setCell ⟨g,t*20+4,none⟩ (.int .i64 3)):=O2.out.fr.setCell (p:=⟨g,t*20+4,none⟩) (fun _=>.inr (.inl rfl)) _
   have O3:Hid (Out y (K.ticked.setLeft t 3) (.slice (some ⟨g,0,none⟩) K.threads.length c) vp vl sl w ((w1.setCell ⟨g,t*20+4,none⟩ (.int .i64 (u.left-1))).setCell ⟨g,t*20+4,none⟩ (.int .i64 3)) vl sl):=Out.plain h3' F3
   clear z hu3 h3 h3' F3
   go_wp2_with fail
   refine (rmToLast_any y (K.ticked.setLeft t 3) _ vp vl sl t _ O3.out.at_ (by simp [RM.setLeft,RM.upd,RM.ticked,HK.out];exact tk) (by simp [RM.setLeft,RM.upd,RM.ticked,HK.out];exact hb) HH.out.2.2.2.2.2.1 (by have:=HH.out.2.2.2.2.2.2;show K.last<=_;omega)).mono ?_
   rintro e W0 ⟨rfl,h4,F4⟩
   have EK:Hid (K.tick=((K.ticked.setLeft t 3).toLast t).tickTo k):=by unfold Hid RM.tick;rw [HU.out.2.2,if_pos Z.out,HK.out]
   have HL:Hid (Out y ((K.ticked.setLeft t 3).toLast t) (.slice (some ⟨g,0,none⟩) K.threads.length c) vp vl sl w W0 vl sl/\((K.ticked.setLeft t 3).toLast t).threads.length=k/\-4611686018427387904<=((K.ticked.setLeft t 3).toLast t).last/\((K.ticked.setLeft t 3).toLast t).last<=4611686018427387904-8):=⟨O3.out.trans (Out.plain h4 F4),by simp [RM.toLast,RM.setLeft,RM.upd,RM.ticked,HK.out],by have:=HH.out.2.2.2.2.2.1;show _<=K.last+1;omega,by have:=HH.out.2.2.2.2.2.2;show K.last+1<=_;omega⟩
   clear h4 F4 O2 O3 O1 c0 g4 fg c5 fy HU
   generalize (K.ticked.setLeft t 3).toLast t=KF at *
   have cx:W0.cell? ⟨y,0,none⟩=some (.slice (some ⟨g,0,none⟩) k c):=by rw [<- HK.out];exact (HL.out.1.at_.cell 0).trans rfl
   go_wp2_with fail
   go_loopw [3] (fun i wr=>∃ (j:Nat) (sl2:List (Sv×Sv)),j<=k/\i=.int .i64 j/\Hid (Out y (KF.tickTo j) (.slice (some ⟨g,0,none⟩) K.threads.length c) vp vl sl w wr vl sl2)) (fun i _=>k-(intOf i).toNat)
   case atStart=>exact ⟨0,sl,Nat.zero_le _,rfl,HL.out.1⟩
   case round=>
    obtain ⟨j,sl2,hj,rfl,HO⟩:=hrel
    have c0:wr.cell? ⟨y,0,none⟩=some (.slice (some ⟨g,0,none⟩) k c):=by rw [<- HK.out];exact (HO.out.at_.cell 0).trans rfl
    have c5:wr.cell? ⟨y,36,none⟩=some (.int .i64 KF.clock):=by have:=(HO.out.at_.cell 36).trans (show _=some (Value.int .i64 (KF.tickTo j).clock) from rfl);rw [(tickTo_same KF j).2.1] at this;exact this
    have lyr:y < wr.heap.size:=HO.out.at_.ly
    have lgr:g < wr.heap.size:=HO.out.at_.th.lt rfl
    by_cases hlt:j < k
    ·obtain ⟨x,hx⟩:∃ x,(KF.tickTo j).threads[j]? = some x:=⟨_,List.getElem?_eq_getElem (by rw [(tickTo_same KF j).1,HL.out.2.1];exact hlt)⟩
     obtain ⟨sx,hsx⟩:=HO.out.at_.sl_get hx
     have g15:wr.cell? ⟨g,j*20+15,none⟩=some (.int .i64 x.time):=HO.out.at_.trange hx hsx 15 _ rfl
     have hlt':(j:Int) < (k:Int):=by omega
     have HX:=hid (And.intro hx hsx)
     clear hx hsx
     by_cases q:x.time=KF.clock
     ·have d:(x.time == KF.clock)=true:=by simp [q]
      have E:=hid (tickTo_yes HX.out.1 q)
      clear q
      go_wp2_with fail
      go_quiet (fail)
      go_wp2_with fail
      refine (rmOver_any y (KF.tickTo j) _ vp vl sl2 j sx 6 _ (HO.out.at_.below (below_drewN (Below.refl _ wr) _)) (by rw [(tickTo_same KF j).1,HL.out.2.1];exact hlt) (by rw [(tickTo_same KF j).1,HL.out.2.1];exact hb) HX.out.2).mono ?_
      rintro e w3 ⟨rfl,h3,F3⟩
      have O3:Out y ((KF.tickTo j).over j 6) (.slice (some ⟨g,0,none⟩) K.threads.length c) vp vl sl w w3 vl (sl2.set j (sx.1,Sv.nil)):=(HO.out.trans (Out.plain (HO.out.at_.below (below_drewN (Below.refl _ wr) nq)) (Fr.of_below (below_drewN (Below.refl _ wr) nq) _))).trans ⟨h3,F3.mono (fun q _ e=>.inr (.inl e)),fun _ e=>.inl e,fun q hq=>wdOwn_set HX.out.2 (fun q hq=>by simp [inBlock,Sv.nil] at hq) hq⟩
      have H3:=hid O3
      clear h3 F3 O3
      go_wp2_with fail
      refine (rmToLast_any y ((KF.tickTo j).over j 6) _ vp vl _ j w3 H3.out.at_ (by simp [RM.over,RM.upd,(tickTo_same KF j).1,HL.out.2.1];exact hlt) (by simp [RM.over,RM.upd,(tickTo_same KF j).1,HL.out.2.1];exact hb) (by have:=(tickTo_same KF j).2.2;have:=HL.out.2.2;show _<=(KF.tickTo j).last;omega) (by have:=(tickTo_same KF j).2.2;have:=HL.out.2.2;show (KF.tickTo j).last<=_;omega)).mono ?_
      rintro e w4 ⟨rfl,h4,F4⟩
      have H4:=hid (H3.out.trans (Out.plain h4 F4))
      clear h4 F4
      go_wp2
      exact ⟨⟨j+1,_,by omega,by go_num,by rw [E.out];exact H4.out⟩,by simp [intOf];omega⟩
     ·have d:(x.time == KF.clock)=false:=by simp [q]
      have E:=hid (tickTo_no HX.out.1 q)
      clear q
      go_wp2_with fail
      go_quiet (fail)
      go_wp2
      exact ⟨⟨j+1,sl2,by omega,by go_num,by rw [E.out];exact HO.out.trans (Out.plain (HO.out.at_.below (below_drewN (Below.refl _ wr) _)) (Fr.of_below (below_drewN (Below.refl _ wr) _) _))⟩,by simp [intOf];omega⟩
    ·have hjk:j=k:=by omega
     subst hjk
     go_wp2
     go_end0
     exact ⟨rfl,vl,sl2,by rw [EK.out];exact HO.out⟩
  ·have z1:(u.left-1 == 0)=false:=by simp [z]
   have EK:Hid (K.tick=(K.ticked.setLeft t (u.left-1)).tickTo k):=by unfold Hid RM.tick;rw [HU.out.2.2,if_neg z,HK.out]
   have HL:Hid (Out y (K.ticked.setLeft t (u.left-1)) (.slice (some ⟨g,0,none⟩) K.threads.length c) vp vl sl w (w1.setCell ⟨g,t*20+4,none⟩ (.int .i64 (u.left-1))) vl sl/\(K.ticked.setLeft t (u.left-1)).threads.length=k/\-4611686018427387904<=(K.ticked.setLeft t (u.left-1)).last/\(K.ticked.setLeft t (u.left-1)).last<=4611686018427387904-9):=⟨O2.out,by simp [RM.setLeft,RM.upd,RM.ticked,HK.out],HH.out.2.2.2.2.2.1,HH.out.2.2.2.2.2.2⟩
   clear z
   go_wp2_with fail
   clear O2 O1 c0 g4 fg c5 fy HU
   generalize K.ticked.setLeft t (u.left-1)=KF at *
   generalize w1.setCell ⟨g,t*20+4,none⟩ (.int .i64 (u.left-1))=W0 at *
   have cx:W0.cell? ⟨y,0,none⟩=some (.slice (some ⟨g,0,none⟩) k c):=by rw [<- HK.out];exact (HL.out.1.at_.cell 0).trans rfl
   go_wp2_with fail
   go_loopw [3] (fun i wr=>∃ (j:Nat) (sl2:List (Sv×Sv)),j<=k/\i=.int .i64 j/\Hid (Out y (KF.tickTo j) (.slice (some ⟨g,0,none⟩) K.threads.length c) vp vl sl w wr vl sl2)) (fun i _=>k-(intOf i).toNat)
   case atStart=>exact ⟨0,sl,Nat.zero_le _,rfl,HL.out.1⟩
   case round=>
    obtain ⟨j,sl2,hj,rfl,HO⟩:=hrel
    have c0:wr.cell? ⟨y,0,none⟩=some (.slice (some ⟨g,0,none⟩) k c):=by rw [<- HK.out];exact (HO.out.at_.cell 0).trans rfl
    have c5:wr.cell? ⟨y,36,none⟩=some (.int .i64 KF.clock):=by have:=(HO.out.at_.cell 36).trans (show _=some (Value.int .i64 (KF.tickTo j).clock) from rfl);rw [(tickTo_same KF j).2.1] at this;exact this
    have lyr:y < wr.heap.size:=HO.out.at_.ly
    have lgr:g < wr.heap.size:=HO.out.at_.th.lt rfl
    by_cases hlt:j < k
    ·obtain ⟨x,hx⟩:∃ x,(KF.tickTo j).threads[j]? = some x:=⟨_,List.getElem?_eq_getElem (by rw [(tickTo_same KF j).1,HL.out.2.1];exact hlt)⟩
     obtain ⟨sx,hsx⟩:=HO.out.at_.sl_get hx
     have g15:wr.cell? ⟨g,j*20+15,none⟩=some (.int .i64 x.time):=HO.out.at_.trange hx hsx 15 _ rfl
     have hlt':(j:Int) < (k:Int):=by omega
     have HX:=hid (And.intro hx hsx)
     clear hx hsx
     by_cases q:x.time=KF.clock
     ·have d:(x.time == KF.clock)=true:=by simp [q]
      have E:=hid (tickTo_yes HX.out.1 q)
      clear q
      go_wp2_with fail
      go_quiet (fail)
      go_wp2_with fail
      refine (rmOver_any y (KF.tickTo j) _ vp vl sl2 j sx 6 _ (HO.out.at_.below (below_drewN (Below.refl _ wr) _)) (by rw [(tickTo_same KF j).1,HL.out.2.1];exact hlt) (by rw [(tickTo_same KF j).1,HL.out.2.1];exact hb) HX.out.2).mono ?_
      rintro e w3 ⟨rfl,h3,F3⟩
      have O3:Out y ((KF.tickTo j).over j 6) (.slice (some ⟨g,0,none⟩) K.threads.length c) vp vl sl w w3 vl (sl2.set j (sx.1,Sv.nil)):=(HO.out.trans (Out.plain (HO.out.at_.below (below_drewN (Below.refl _ wr) nq)) (Fr.of_below (below_drewN (Below.refl _ wr) nq) _))).trans ⟨h3,F3.mono (fun q _ e=>.inr (.inl e)),fun _ e=>.inl e,fun q hq=>wdOwn_set HX.out.2 (fun q hq=>by simp [inBlock,Sv.nil] at hq) hq⟩
      have H3:=hid O3
      clear h3 F3 O3
      go_wp2_with fail
      refine (rmToLast_any y ((KF.tickTo j).over j 6) _ vp vl _ j w3 H3.out.at_ (by simp [RM.over,RM.upd,(tickTo_same KF j).1,HL.out.2.1];exact hlt) (by simp [RM.over,RM.upd,(tickTo_same KF j).1,HL.out.2.1];exact hb) (by have:=(tickTo_same KF j).2.2;have:=HL.out.2.2;show _<=(KF.tickTo j).last;omega) (by have:=(tickTo_same KF j).2.2;have:=HL.out.2.2;show (KF.tickTo j).last<=_;omega)).mono ?_
      rintro e w4 ⟨rfl,h4,F4⟩
      have H4:=hid (H3.out.trans (Out.plain h4 F4))
      clear h4 F4
      go_wp2
      exact ⟨⟨j+1,_,by omega,by go_num,by rw [E.out];exact H4.out⟩,by simp [intOf];omega⟩
     ·have d:(x.time == KF.clock)=false:=by simp [q]
      have E:=hid (tickTo_no HX.out.1 q)
      clear q
      go_wp2_with fail
      go_quiet (fail)
      go_wp2
      exact ⟨⟨j+1,sl2,by omega,by go_num,by rw [E.out];exact HO.out.trans (Out.plain (HO.out.at_.below (below_drewN (Below.refl _ wr) _)) (Fr.of_below (below_drewN (Below.refl _ wr) _) _))⟩,by simp [intOf];omega⟩
    ·have hjk:j=k:=by omega
     subst hjk
     go_wp2
     go_end0
     exact ⟨rfl,vl,sl2,by rw [EK.out];exact HO.out⟩
theorem rmYield_any (y:Nat) (K:RM) (vt vp vl:Value) (sl:List (Sv×Sv)) (w:World) (h:RmAt w y K vt vp vl sl) (ft:K.Fit) (hr:Room 9 K) :
  Calls Tryz.prog 64 #[.pointer (some ⟨y,0,none⟩)] w fun e w'=>e=.returned (.int .i64 K.yield.1)/\∃ vl' sl',Out y K.yield.2 vt vp vl sl w w' vl' sl':=by
 obtain ⟨g,c,rfl,hgy,lg⟩:=h.open ft.one
 have hb:=ft.six
 obtain ⟨k,hk⟩:∃ k,K.threads.length=k:=⟨_,rfl⟩
 have HK:=hid hk
 rw [hk] at hb
 have HH:=hid (And.intro h (And.intro ft hr))
 clear h ft hr hk
 go_enter Tryz.func64,Tryz.ntmps64
 go_wp2_with fail
 refine (rmCurrent_any y K _ vp vl sl _ HH.out.1 (by rw [HK.out];exact hb)).mono ?_
 rintro e w1 ⟨rfl,B1⟩
 have O1:Hid (Out y K (.slice (some ⟨g,0,none⟩) K.threads.length c) vp vl sl w w1 vl sl):=Out.plain (HH.out.1.below B1) (Fr.of_below B1 _)
 clear B1
 rcases curM_inv K.threads K.threads.length (Nat.le_refl _) with e | ⟨t,u,e,ht,hu,hst⟩
 ·have E:=hid (show K.yield=(2,K) by unfold RM.yield;rw [if_pos (show K.cur < 0 by unfold RM.cur;omega)])
  rw [show K.cur=-1 from e]
  clear e
  go_wp2
  go_ret
  exact ⟨by rw [E.out];rfl,vl,sl,by rw [E.out];exact O1.out⟩
 ·have ec:K.cur=t:=e
  rw [ec]
  have tk:t < k:=by rw [<- HK.out];exact ht
  have tk':(t:Int) < (k:Int):=by omega
  obtain ⟨su,hsu⟩:=O1.out.at_.sl_get hu
  have c0:w1.cell? ⟨y,0,none⟩=some (.slice (some ⟨g,0,none⟩) k c):=by rw [<- HK.out];exact (O1.out.at_.cell 0).trans rfl
  have g4:w1.cell? ⟨g,t*20+4,none⟩=some (.int .i64 u.left):=O1.out.at_.trange hu hsu 4 _ rfl
  have fg:∀ j,w1.frozen? ⟨g,j,none⟩=false:=fun j=>O1.out.at_.th.fro j
  have lg1:g < w1.heap.size:=O1.out.at_.th.lt rfl
  have E:=hid (show K.yield=(0,(K.setLeft t 3).toLast t) by unfold RM.yield;rw [if_neg (by rw [ec];omega),ec,Int.toNat_natCast])
  have h2:=O1.out.at_.setTh (t:=t) (j:=4) (fun v=>{ v with left:=3 }) (.int .i64 3) hu hsu (by omega) rfl rfl rfl
  have F2:Fr (Wr y (.slice (some ⟨g,0,none⟩) K.threads.length c) vp vl) w1 (w1.setCell ⟨g,t*20+4,none⟩ (.int .i64 3)):=(Fr.refl _ w1).setCell (p:=⟨g,t*20+4,none⟩) (fun _=>.inr (.inl rfl)) _
  have O2:Hid (Out y (K.setLeft t 3) (.slice (some ⟨g,0,none⟩) K.threads.length c) vp vl sl w (w1.setCell ⟨g,t*20+4,none⟩ (.int .i64 3)) vl sl):=O1.out.trans (Out.plain h2 F2)
  clear h2 F2 e ht hu hst ec hsu
  go_wp2_with fail
  refine (rmToLast_any y (K.setLeft t 3) _ vp vl sl t _ O2.out.at_ (by simp [RM.setLeft,RM.upd,HK.out];exact tk) (by simp [RM.setLeft,RM.upd,HK.out];exact hb) HH.out.2.2.2.2.1 (by have:=HH.out.2.2.2.2.2;show K.last<=_;omega)).mono ?_
  rintro e w4 ⟨rfl,h4,F4⟩
  have H4:=hid (O2.out.trans (Out.plain h4 F4))
  clear h4 F4
  go_wp2
  go_ret
  exact ⟨by rw [E.out];rfl,vl,sl,by rw [E.out];exact H4.out⟩
open Go.RowKit
def RM.home (K:RM):Int:=match K.threads[K.cur.toNat]? with
 | some u=>u.sp
 | none=>0
def RM.touch (K:RM) (pg ce rt:Int):Int×Int:=
 if K.cur < 0 then (0,2) else if inI pg 0 5=true/\inI ce 0 3=true then
  match findLf K.leaves K.home pg with
  | some p=>if bits .and .i64 p.rt rt=0 then (0,7) else (p.fr,0)
  | none=>(0,7)
 else (0,3)
def RM.load (K:RM) (pg ce:Int):Int×Int:=if (K.touch pg ce 1).2=0 then (K.fr ((K.touch pg ce 1).1.toNat*4+ce.toNat),0) else (0,(K.touch pg ce 1).2)
def RM.stored (K:RM) (pg ce n:Int):RM:=if (K.touch pg ce 2).2=0 then { K with fr:=frSet K.fr ((K.touch pg ce 2).1.toNat*4+ce.toNat) n } else K
noncomputable def RM.unmap (K:RM) (pg:Int) (own:Bool):Int×RM:=
 if K.cur < 0 then (2,K) else if inI pg 0 5=true then
  match findLf K.leaves K.home pg with
  | some _=>(0,{ K with leaves:=goneL K.leaves K.home pg own })
  | none=>(8,K)
 else (3,K)
theorem km_fr {vt vp vl:Value}{sp cl fi la:Int}{fr:Nat->Int}:∀ j,j < 32->(km vt vp vl sp fr cl fi la)[4+j]? = some (.int .i64 (fr j))
 | 0,_ | 1,_ | 2,_ | 3,_ | 4,_ | 5,_ | 6,_ | 7,_ | 8,_ | 9,_ | 10,_ | 11,_ | 12,_ | 13,_ | 14,_ | 15,_ | 16,_ | 17,_ | 18,_ | 19,_ | 20,_ | 21,_ | 22,_ | 23,_ | 24,_ | 25,_ | 26,_ | 27,_ | 28,_ | 29,_ | 30,_ | 31,_=>rfl
 | _+32,h=>absurd h (by omega)
theorem km_set {vt vp vl:Value}{sp cl fi la:Int}{fr:Nat->Int}{n:Int}:∀ j,j < 32->(km vt vp vl sp fr cl fi la).setIfInBounds (4+j) (.int .i64 n)=km vt vp vl sp (frSet fr j n) cl fi la
 | 0,_ | 1,_ | 2,_ | 3,_ | 4,_ | 5,_ | 6,_ | 7,_ | 8,_ | 9,_ | 10,_ | 11,_ | 12,_ | 13,_ | 14,_ | 15,_ | 16,_ | 17,_ | 18,_ | 19,_ | 20,_ | 21,_ | 22,_ | 23,_ | 24,_ | 25,_ | 26,_ | 27,_ | 28,_ | 29,_ | 30,_ | 31,_=>rfl
 | _+32,h=>absurd h (by omega)
theorem rmTouch_any (y:Nat) (K:RM) (vt vp vl:Value) (sl:List (Sv×Sv)) (pg ce rt:Int) (w:World) (h:RmAt w y K vt vp vl sl) (ft:K.Fit) :
  Calls Tryz.prog 105 #[.pointer (some ⟨y,0,none⟩),.int .i64 pg,.int .i64 ce,.int .i64 rt] w fun e w'=>e=.returned (.tuple #[.int .i64 (K.touch pg ce rt).1,.int .i64 (K.touch pg ce rt).2])/\Below w.heap.size w w':=by
 obtain ⟨g,c,rfl,hgy,lg⟩:=h.open ft.one
 have hb:=ft.six
 obtain ⟨m,hm⟩:∃ m,K.threads.length=m:=⟨_,rfl⟩
 have HM:=hid hm
 rw [hm] at hb
 have HH:=hid (And.intro h ft)
 clear h ft hm
 go_enter Tryz.func105,Tryz.ntmps105
 go_wp2_with fail
 refine (rmCurrent_any y K _ vp vl sl _ HH.out.1 (by rw [HM.out];exact hb)).mono ?_
 rintro e w1 ⟨rfl,hb1⟩
 have h1:=HH.out.1.below hb1
 have c0:w1.cell? ⟨y,0,none⟩=some (.slice (some ⟨g,0,none⟩) m c):=by rw [<- HM.out];exact (h1.cell 0).trans rfl
 have H1:=hid (And.intro h1 hb1)
 clear h1 hb1
 rcases curM_inv K.threads K.threads.length (Nat.le_refl _) with e | ⟨t,u,e,ht,hu,hst⟩
 ·have E:=hid (show K.touch pg ce rt=(0,2) by unfold RM.touch;rw [if_pos (show K.cur < 0 by unfold RM.cur;omega)])
  rw [show K.cur=-1 from e]
  clear e
  go_wp2
  go_ret2
  exact ⟨by rw [E.out];rfl,H1.out.2⟩
 ·have ec:K.cur=t:=e
  have eh:K.home=u.sp:=by unfold RM.home;rw [ec,Int.toNat_natCast,hu]
  obtain ⟨su,hsu⟩:=H1.out.1.sl_get hu
  have cg:w1.cell? ⟨g,t*20,none⟩=some (.int .i64 u.sp):=H1.out.1.trange (i:=t) hu hsu 0 _ rfl
  have tm:t < m:=by rw [<- HM.out];exact ht
  have tm':(t:Int) < (m:Int):=by omega
  have us0:=(HH.out.2.th t u hu).s0
  rw [ec]
  have HT:=hid (And.intro ec eh)
  clear e ht hu hst ec eh hsu
  by_cases f:inI pg 0 5=true/\inI ce 0 3=true
  ·obtain ⟨f1,f2⟩:=f
   have T0:K.touch pg ce rt=match findLf K.leaves u.sp pg with | some p=>if bits .and .i64 p.rt rt=0 then (0,7) else (p.fr,0) | none=>(0,7):=by unfold RM.touch;rw [if_neg (by rw [HT.out.1];omega),if_pos ⟨f1,f2⟩,HT.out.2]
   have HT0:=hid T0
   clear T0
   go_wp2_with (go_at_call 106;refine (in_any _ _ _ _).mono ?_;rintro e w2 ⟨rfl,rfl⟩)
   refine (rmLeaf_any y K _ vp vl sl u.sp pg _ H1.out.1 (by have:=HH.out.2.len;omega)).mono ?_
   rintro e w2 ⟨r,rfl,hix,rfl⟩
   rcases findLf_ix HH.out.2.ap hix with ⟨rfl,ef⟩ | ⟨i,p,rfl,hpi,ef,e1,e2⟩
   ·have E:=hid (show K.touch pg ce rt=(0,7) by rw [HT0.out,ef])
    clear hix ef
    go_wp2
    go_ret2
    exact ⟨by rw [E.out];rfl,H1.out.2⟩
   ·have E0:K.touch pg ce rt=if bits .and .i64 p.rt rt=0 then (0,7) else (p.fr,0):=by rw [HT0.out,ef]
    obtain ⟨al,cl,ev⟩:=H1.out.1.le.slice
    rw [List.length_map] at ev
    obtain ⟨ml,hml⟩:∃ ml,K.leaves.length=ml:=⟨_,rfl⟩
    have hil:i < ml:=by rw [<- hml];exact (List.getElem?_eq_some_iff.1 hpi).1
    have hil':(i:Int) < (ml:Int):=by omega
    have c3:w2.cell? ⟨y,3,none⟩=some (.slice al ml cl):=by rw [(H1.out.1.cell 3).trans (show _=some vl from rfl),ev,hml]
    have SL:=H1.out.1.le
    rw [ev,hml] at SL
    obtain ⟨gl,ea,hx⟩:=SL.is_some (by omega)
    clear hx
    subst ea
    have r1:=SL.row (i:=i) (r:=lfRow p) (by rw [List.getElem?_map,hpi];rfl)
    have l2:w2.cell? ⟨gl,i*6+2,none⟩=some (.int .i64 p.fr):=r1 2 _ rfl
    have l3:w2.cell? ⟨gl,i*6+3,none⟩=some (.int .i64 p.rt):=r1 3 _ rfl
    clear r1 hix ef e1 e2 hpi SL ev hml
    by_cases q:bits .and .i64 p.rt rt=0
    ·have hbf:(bits .and .i64 p.rt rt == 0)=true:=by simp [q]
     have E:=hid (show K.touch pg ce rt=(0,7) by rw [E0,if_pos q])
     clear E0 q
     go_wp2
     go_ret2
     exact ⟨by rw [E.out];rfl,H1.out.2⟩
    ·have hbf:(bits .and .i64 p.rt rt == 0)=false:=by simp [q]
     have E:=hid (show K.touch pg ce rt=(p.fr,0) by rw [E0,if_neg q])
     clear E0 q
     go_wp2
     go_ret2
     exact ⟨by rw [E.out];rfl,H1.out.2⟩
  ·have E:=hid (show K.touch pg ce rt=(0,3) by unfold RM.touch;rw [if_neg (by rw [HT.out.1];omega),if_neg f])
   by_cases f1:inI pg 0 5=true
   ·have f2:inI ce 0 3=false:=by cases h:inI ce 0 3 <;> simp_all
    clear f
    go_wp2_with (go_at_call 106;refine (in_any _ _ _ _).mono ?_;rintro e w2 ⟨rfl,rfl⟩)
    go_ret2
    exact ⟨by rw [E.out];rfl,H1.out.2⟩
   ·have f3:inI pg 0 5=false:=by simpa using f1
    clear f f1
    go_wp2_with (go_at_call 106;refine (in_any _ _ _ _).mono ?_;rintro e w2 ⟨rfl,rfl⟩)
    go_ret2
    exact ⟨by rw [E.out];rfl,H1.out.2⟩
theorem rm_touch_ok {K:RM}{pg ce rt:Int}(hf:∀ l∈K.leaves,0<=l.fr/\l.fr<=7) (h:(K.touch pg ce rt).2=0):(0<=(K.touch pg ce rt).1/\(K.touch pg ce rt).1<=7)/\0<=ce/\ce<=3:=by
 unfold RM.touch at h ⊢
 split at h
 ·simp at h
 ·rename_i hc0
  split at h
  ·rename_i hc
   rw [if_neg hc0,if_pos hc]
   refine ⟨?_,inI_true.1 hc.2⟩
   split at h
   ·rename_i p hp
    split at h
    ·simp at h
    ·rename_i hr
     simp only [hr,if_false]
     exact hf p (List.mem_of_find?_eq_some hp)
   ·simp at h
  ·simp at h
theorem rmLoad_any (y:Nat) (K:RM) (vt vp vl:Value) (sl:List (Sv×Sv)) (pg ce:Int) (w:World) (h:RmAt w y K vt vp vl sl) (ft:K.Fit) (hf:∀ l∈K.leaves,0<=l.fr/\l.fr<=7) :
  Calls Tryz.prog 65 #[.pointer (some ⟨y,0,none⟩),.int .i64 pg,.int .i64 ce] w fun e w'=>e=.returned (.tuple #[.int .i64 (K.load pg ce).1,.int .i64 (K.load pg ce).2])/\Below w.heap.size w w':=by
 have HH:=hid (And.intro h (And.intro (rmTouch_any y K vt vp vl sl pg ce 1 w h ft) (rm_touch_ok (pg:=pg) (ce:=ce) (rt:=1) hf)))
 obtain ⟨f,er,et⟩:∃ f er,K.touch pg ce 1=(f,er):=⟨_,_,rfl⟩
 have HT:=hid et
 clear h ft hf et
 go_enter Tryz.func65,Tryz.ntmps65
 go_wp2_with fail
 refine HH.out.2.1.mono ?_
 rintro e w1 ⟨rfl,hb1⟩
 rw [HT.out]
 dsimp only
 by_cases e0:er=0
 ·subst e0
  have E:=hid (show K.load pg ce=(K.fr (f.toNat*4+ce.toNat),0) by simp [RM.load,HT.out])
  obtain ⟨⟨f0,f7⟩,c0,c3⟩:=HH.out.2.2 (by rw [HT.out])
  rw [HT.out] at f0 f7
  dsimp only at f0 f7
  obtain ⟨fn,rfl⟩:∃ fn:Nat,f=fn:=⟨f.toNat,by omega⟩
  obtain ⟨cn,rfl⟩:∃ cn:Nat,ce=cn:=⟨ce.toNat,by omega⟩
  have f8:(fn:Int) < 8:=by omega
  have c4:(cn:Int) < 4:=by omega
  have cc:w1.cell? ⟨y,4+fn*4+cn,none⟩=some (.int .i64 (K.fr (fn*4+cn))):=by
   rw [Nat.add_assoc]
   exact ((HH.out.1.below hb1).cell _).trans (km_fr _ (by omega))
  have H1:=hid hb1
  clear hb1 f7 c3
  go_wp2
  go_ret2
  exact ⟨by rw [E.out];rfl,H1.out⟩
 ·have E:=hid (show K.load pg ce=(0,er) by simp [RM.load,HT.out,e0])
  have e1:(er == 0)=false:=by simp [e0]
  have H1:=hid hb1
  clear hb1 e0
  go_wp2
  go_ret2
  exact ⟨by rw [E.out];rfl,H1.out⟩
theorem rmUnmap_any (y:Nat) (K:RM) (vt vp vl:Value) (sl:List (Sv×Sv)) (n:Int) (own:Bool) (w:World) (h:RmAt w y K vt vp vl sl) (ft:K.Fit) :
  Calls Tryz.prog 67 #[.pointer (some ⟨y,0,none⟩),.int .i64 n,.bool own] w fun e w'=>e=.returned (.int .i64 (K.unmap n own).1)/\∃ vl' sl',Out y (K.unmap n own).2 vt vp vl sl w w' vl' sl':=by
 obtain ⟨g,c,rfl,hgy,lg⟩:=h.open ft.one
 have hb:=ft.six
 obtain ⟨m,hm⟩:∃ m,K.threads.length=m:=⟨_,rfl⟩
 have HM:=hid hm
 rw [hm] at hb
 have HH:=hid (And.intro h ft)
 clear h ft hm
 go_enter Tryz.func67,Tryz.ntmps67
 go_wp2_with fail
 refine (rmCurrent_any y K _ vp vl sl _ HH.out.1 (by rw [HM.out];exact hb)).mono ?_
 rintro e w1 ⟨rfl,hb1⟩
 have h1:=HH.out.1.below hb1
 have c0:w1.cell? ⟨y,0,none⟩=some (.slice (some ⟨g,0,none⟩) m c):=by rw [<- HM.out];exact (h1.cell 0).trans rfl
 have H1:=hid (And.intro h1 hb1)
 clear h1 hb1
 rcases curM_inv K.threads K.threads.length (Nat.le_refl _) with e | ⟨t,u,e,ht,hu,hst⟩
 ·have E:=hid (show K.unmap n own=(2,K) by unfold RM.unmap;rw [if_pos (show K.cur < 0 by unfold RM.cur;omega)])
  rw [show K.cur=-1 from e]
  clear e
  go_wp2
  go_ret
  exact ⟨by rw [E.out];rfl,vl,sl,by rw [E.out];exact Out.plain H1.out.1 (Fr.of_below H1.out.2 _)⟩
 ·have ec:K.cur=t:=e
  have eh:K.home=u.sp:=by unfold RM.home;rw [ec,Int.toNat_natCast,hu]
  obtain ⟨su,hsu⟩:=H1.out.1.sl_get hu
  have cg:w1.cell? ⟨g,t*20,none⟩=some (.int .i64 u.sp):=H1.out.1.trange (i:=t) hu hsu 0 _ rfl
  have tm:t < m:=by rw [<- HM.out];exact ht
  have tm':(t:Int) < (m:Int):=by omega
  have us0:=(HH.out.2.th t u hu).s0
  rw [ec]
  have HT:=hid (And.intro ec eh)
  clear e ht hu hst ec eh hsu
  by_cases f:inI n 0 5=true
  ·have T0:K.unmap n own=match findLf K.leaves u.sp n with | some _=>(0,{ K with leaves:=goneL K.leaves u.sp n own }) | none=>(8,K):=by unfold RM.unmap;rw [if_neg (by rw [HT.out.1];omega),if_pos f,HT.out.2]
   have HT0:=hid T0
   clear T0
   go_wp2_with (go_at_call 106;refine (in_any _ _ _ _).mono ?_;rintro e w2 ⟨rfl,rfl⟩)
   refine (rmLeaf_any y K _ vp vl sl u.sp n _ H1.out.1 (by have:=HH.out.2.len;omega)).mono ?_
   rintro e w2 ⟨r,rfl,hix,rfl⟩
   rcases findLf_ix HH.out.2.ap hix with ⟨rfl,ef⟩ | ⟨i,p,rfl,hpi,ef,e1,e2⟩
   ·have E:=hid (show K.unmap n own=(8,K) by rw [HT0.out,ef])
    clear hix ef
    go_wp2
    go_ret
    exact ⟨by rw [E.out];rfl,vl,sl,by rw [E.out];exact Out.plain H1.out.1 (Fr.of_below H1.out.2 _)⟩
   ·have E:=hid (show K.unmap n own=(0,{ K with leaves:=goneL K.leaves u.sp n own }) by rw [HT0.out,ef])
    have dz:decide ((i:Int) < 0)=false:=by simp
    clear hix ef e1 e2 hpi
    go_wp2_with fail
    obtain ⟨rk,hkin⟩:=HH.out.2.kin
    refine (rmGone_any (younger rk K.leaves (rk u.sp n)+1) y K _ vp vl sl u.sp n own _ rk H1.out.1 (by have:=HH.out.2.len;omega) HH.out.2.ap hkin us0 (Nat.lt_succ_self _)).mono ?_
    rintro e w3 ⟨rfl,vl3,R3,F3,O3⟩
    have H3:=hid ((Out.plain H1.out.1 (Fr.of_below H1.out.2 _)).trans (⟨R3,F3.mono (fun q _ e=>e.elim .inl (fun e=>.inr (.inr (.inr e)))),O3,fun _ e=>.inl e⟩:Out y { K with leaves:=goneL K.leaves u.sp n own } (.slice (some ⟨g,0,none⟩) K.threads.length c) vp vl sl w2 w3 vl3 sl))
    clear R3 F3 O3 hkin rk
    go_wp2
    go_ret
    exact ⟨by rw [E.out];rfl,vl3,sl,by rw [E.out];exact H3.out⟩
  ·have E:=hid (show K.unmap n own=(3,K) by unfold RM.unmap;rw [if_neg (by rw [HT.out.1];omega),if_neg f])
   have f3:inI n 0 5=false:=by simpa using f
   clear f
   go_wp2_with (go_at_call 106;refine (in_any _ _ _ _).mono ?_;rintro e w2 ⟨rfl,rfl⟩)
   go_ret
   exact ⟨by rw [E.out];rfl,vl,sl,by rw [E.out];exact Out.plain H1.out.1 (Fr.of_below H1.out.2 _)⟩
open Go.RowKit
def RM.drop (K:RM) (n:Int):Int×RM:=
 if K.cur < 0 then (2,K) else if inI n 0 5=true then
  match findQ K.passes K.home n with
  | some _=>(0,{ K with passes:=outQ K.passes K.home n })
  | none=>(4,K)
 else (3,K)
def RM.derive (K:RM) (a b r:Int):Int×RM:=
 if K.cur < 0 then (2,K) else if inI a 0 5=true/\inI b 0 5=true/\inI r 1 3=true then
  match findQ K.passes K.home a with
  | some p=>if hasRt p.2.2.2 r=true then (0,{ K with passes:=putQ K.passes K.home b p.2.2.1 r }) else (4,K)
  | none=>(4,K)
 else (3,K)
theorem rmStore_any (y:Nat) (K:RM) (vt vp vl:Value) (sl:List (Sv×Sv)) (pg ce n:Int) (w:World) (h:RmAt w y K vt vp vl sl) (ft:K.Fit) (hf:∀ l∈K.leaves,0<=l.fr/\l.fr<=7) :
  Calls Tryz.prog 66 #[.pointer (some ⟨y,0,none⟩),.int .i64 pg,.int .i64 ce,.int .i64 n] w fun e w'=>e=.returned (.int .i64 (K.touch pg ce 2).2)/\RmAt w' y (K.stored pg ce n) vt vp vl sl/\Fr (Wr y vt vp vl) w w':=by
 have HH:=hid (And.intro h (And.intro (rmTouch_any y K vt vp vl sl pg ce 2 w h ft) (rm_touch_ok (pg:=pg) (ce:=ce) (rt:=2) hf)))
 obtain ⟨f,er,et⟩:∃ f er,K.touch pg ce 2=(f,er):=⟨_,_,rfl⟩
 have HT:=hid et
 clear h ft hf et
 go_enter Tryz.func66,Tryz.ntmps66
 go_wp2_with fail
 refine HH.out.2.1.mono ?_
 rintro e w1 ⟨rfl,hb1⟩
 rw [HT.out]
 dsimp only
 have h1:=HH.out.1.below hb1
 by_cases e0:er=0
 ·subst e0
  obtain ⟨⟨f0,f7⟩,c0,c3⟩:=HH.out.2.2 (by rw [HT.out])
  rw [HT.out] at f0 f7
  dsimp only at f0 f7
  obtain ⟨fn,rfl⟩:∃ fn:Nat,f=fn:=⟨f.toNat,by omega⟩
  obtain ⟨cn,rfl⟩:∃ cn:Nat,ce=cn:=⟨ce.toNat,by omega⟩
  have E:=hid (show K.stored pg cn n={ K with fr:=frSet K.fr (fn*4+cn) n } by simp [RM.stored,HT.out])
  have f8:(fn:Int) < 8:=by omega
  have c4:(cn:Int) < 4:=by omega
  have hj:fn*4+cn < 32:=by omega
  have cc:w1.cell? ⟨y,4+fn*4+cn,none⟩=some (.int .i64 (K.fr (fn*4+cn))):=by
   rw [Nat.add_assoc]
   exact (h1.cell _).trans (km_fr _ hj)
  have fz:w1.frozen? ⟨y,4+fn*4+cn,none⟩=false:=frozen_of_row _ _ _ _ _ h1.blk
  have H1:=hid (And.intro h1 (And.intro hb1 hj))
  clear hb1 f7 c3 h1 hj
  go_wp2
  go_ret
  refine ⟨by rw [HT.out];rfl,?_,(Fr.of_below H1.out.2.1 _).setCell (p:=⟨y,4+fn*4+cn,none⟩) (fun _=>.inl rfl) _⟩
  rw [E.out,Nat.add_assoc]
  exact H1.out.1.setY (km_set _ H1.out.2.2) rfl rfl rfl
 ·have E:=hid (show K.stored pg ce n=K by simp [RM.stored,HT.out,e0])
  have e1:(er == 0)=false:=by simp [e0]
  have H1:=hid (And.intro h1 hb1)
  clear hb1 e0 h1
  go_wp2
  go_ret
  exact ⟨by rw [HT.out];rfl,by rw [E.out];exact H1.out.1,Fr.of_below H1.out.2 _⟩
theorem rmDrop_any (y:Nat) (K:RM) (vt vp vl:Value) (sl:List (Sv×Sv)) (n:Int) (w:World) (h:RmAt w y K vt vp vl sl) (ft:K.Fit) (hl:K.passes.length<=1000000000000) (ha:Apart K.passes) :
  Calls Tryz.prog 69 #[.pointer (some ⟨y,0,none⟩),.int .i64 n] w fun e w'=>∃ vp',e=.returned (.int .i64 (K.drop n).1)/\RmAt w' y (K.drop n).2 vt vp' vl sl/\Fr (Wr y vt vp vl) w w'/\∀ k,vp'.ownBlock=some k->vp.ownBlock=some k\/w.heap.size<=k:=by
 obtain ⟨g,c,rfl,hgy,lg⟩:=h.open ft.one
 have hb:=ft.six
 obtain ⟨m,hm⟩:∃ m,K.threads.length=m:=⟨_,rfl⟩
 have HM:=hid hm
 rw [hm] at hb
 obtain ⟨ap,cp,el⟩:=h.pa.slice
 rw [List.length_map] at el
 subst el
 obtain ⟨i2,hi2,hx0,hx1,hx2⟩:=info_parts Tryz.infoN55
 obtain ⟨mp,hmp⟩:∃ mp,K.passes.length=mp:=⟨_,rfl⟩
 have HMp:=hid hmp
 have HH:=hid (And.intro h (And.intro ft (And.intro hl ha)))
 clear h ft hm hl ha hmp
 go_enter Tryz.func69,Tryz.ntmps69
 go_wp2_with fail
 refine (rmCurrent_any y K _ _ vl sl _ HH.out.1 (by rw [HM.out];exact hb)).mono ?_
 rintro e w1 ⟨rfl,hb1⟩
 have h1:=HH.out.1.below hb1
 have c0:w1.cell? ⟨y,0,none⟩=some (.slice (some ⟨g,0,none⟩) m c):=by rw [<- HM.out];exact (h1.cell 0).trans rfl
 have H1:=hid (And.intro h1 hb1)
 clear h1 hb1
 rcases curM_inv K.threads K.threads.length (Nat.le_refl _) with e | ⟨t,u,e,ht,hu,hst⟩
 ·have E:=hid (show K.drop n=(2,K) by unfold RM.drop;rw [if_pos (show K.cur < 0 by unfold RM.cur;omega)])
  rw [show K.cur=-1 from e]
  clear e
  go_wp2
  go_ret
  exact ⟨_,by rw [E.out];rfl,by rw [E.out];exact H1.out.1,Fr.of_below H1.out.2 _,fun k hk=>.inl hk⟩
 ·have ec:K.cur=t:=e
  have eh:K.home=u.sp:=by unfold RM.home;rw [ec,Int.toNat_natCast,hu]
  obtain ⟨su,hsu⟩:=H1.out.1.sl_get hu
  have cg:w1.cell? ⟨g,t*20,none⟩=some (.int .i64 u.sp):=H1.out.1.trange (i:=t) hu hsu 0 _ rfl
  have tm:t < m:=by rw [<- HM.out];exact ht
  have tm':(t:Int) < (m:Int):=by omega
  have us0:=(HH.out.2.1.th t u hu).s0
  rw [ec]
  have HT:=hid (And.intro ec eh)
  clear e ht hu hst ec eh hsu
  have c2:w1.cell? ⟨y,2,none⟩=some (.slice ap mp cp):=by rw [<- HMp.out];exact (H1.out.1.cell 2).trans rfl
  have ly:y < w1.heap.size:=H1.out.1.ly
  by_cases f:inI n 0 5=true
  ·go_wp2_with (go_at_call 106;refine (in_any _ _ _ _).mono ?_;rintro e w2 ⟨rfl,rfl⟩)
   refine (rmPass_any y K _ _ vl sl u.sp n _ H1.out.1 HH.out.2.2.1).mono ?_
   rintro e w2 ⟨r,rfl,hix,rfl⟩
   rcases find_of_ix HH.out.2.2.2 hix with ⟨rfl,ef⟩ | ⟨i,p,rfl,hpi,ef,e1,e2⟩
   ·have E:=hid (show K.drop n=(4,K) by unfold RM.drop;rw [if_neg (by rw [HT.out.1];omega),if_pos f,HT.out.2,ef])
    clear hix ef
    go_wp2
    go_ret
    exact ⟨_,by rw [E.out];rfl,by rw [E.out];exact H1.out.1,Fr.of_below H1.out.2 _,fun k hk=>.inl hk⟩
   ·have E:=hid (show K.drop n=(0,{ K with passes:=outQ K.passes u.sp n }) by unfold RM.drop;rw [if_neg (by rw [HT.out.1];omega),if_pos f,HT.out.2,ef])
    have O:=hid (outQ_ix HH.out.2.2.2 hpi e1 e2)
    have hil:i < mp:=by rw [<- HMp.out];exact (List.getElem?_eq_some_iff.1 hpi).1
    have hil':(i:Int) < (mp:Int):=by omega
    obtain ⟨gp,ea,hx⟩:=H1.out.1.pa.is_some (by rw [HMp.out];omega)
    clear hx
    subst ea
    have hcp:mp<=cp:=by
     rcases H1.out.1.pa.form with ⟨h1,_⟩ | ⟨g',cap,h1,h2,_⟩
     ·simp at h1
     ·simp only [Value.slice.injEq] at h1
      obtain ⟨_,_,rfl⟩:=h1
      rw [List.length_map] at h2;rw [<- HMp.out];exact h2
    have hcp':(mp:Int)<=(cp:Int):=by omega
    have hicp:(i:Int)<=(cp:Int):=by omega
    have hmx:(mp:Int)<=1000000000000:=by have:=HH.out.2.2.1;have:=HMp.out;omega
    have hone:∀ r∈K.passes.map qRow,∀ u∈r,u.oneCell'=true:=fun r hr u hu=>by
     obtain ⟨q,_,rfl⟩:=List.mem_map.1 hr
     exact List.all_eq_true.1 (show (qRow q).all (·.oneCell')=true from rfl) u hu
    have HS1:Hid (Inl w2 4 (.slice (some ⟨gp,0,none⟩) i cp) ((K.passes.map qRow).take i)):=by
     have h:=H1.out.1.pa.part hone 0 i cp (.inr (by rw [List.length_map,HMp.out];omega)) (by rw [List.drop_zero,List.length_take,List.length_map,HMp.out];omega) (by rw [List.length_map,HMp.out];unfold maxLen;omega)
     rw [List.drop_zero,Nat.zero_mul] at h
     exact h
    have HO:=hid hone
    clear hix ef e1 e2 hpi hone
    have ly:y < w2.heap.size:=(Array.getElem?_eq_some_iff.1 H1.out.1.blk).1
    have LY:=hid ly
    clear ly
    go_wp2_with (first
     | (at_builtin;(refine wpList_append_n _ rfl (.tmp 30) (.tmp 36) 29 rfl 55 i2 _ 4 32 Tryz.underlying29 hi2 hx0 hx1 hx2 rfl (by decide) (.slice none 0 0) [] rfl (Sl.nil _ _ _) (some ⟨gp,0,none⟩) i cp _ rfl HS1.out i (by rw [List.length_nil,List.length_take,List.length_map,HMp.out];omega) (by unfold maxLen;omega) (by omega) ?_);intro a4 c4 w4 G4;have F4:=(G4.fr (Fr.refl (fun _=>False) w2) (fun q hq'=>(by simp [Value.ownBlock] at hq')));have h4:=H1.out.1.kept F4 (fun _ _ h=>h);have c24:w4.cell? ⟨y,2,none⟩=some (.slice (some ⟨gp,0,none⟩) mp cp):=(by rw [<- HMp.out];exact (cell_of_row w4 y 2 _ _ _ h4.blk).trans rfl);have HS2:Hid (Inl w4 4 (.slice (if cp=i+1 then some ⟨gp,0,none⟩ else some ⟨gp,(i+1)*4,none⟩) (mp-(i+1)) (cp-(i+1))) ((K.passes.map qRow).drop (i+1))):=(by have h:=h4.pa.after HO.out (i+1) (by rw [List.length_map,HMp.out];omega) (by rw [List.length_map,HMp.out];exact hcp) (by rw [List.length_map,HMp.out];unfold maxLen;omega);rw [List.length_map,HMp.out] at h;exact h);have H4:=hid (And.intro h4 (And.intro G4 F4));clear h4 G4 F4)
     | (at_builtin;go_must (refine wpList_append_n _ rfl (.tmp 39) (.tmp 46) 29 rfl 55 i2 _ 4 32 Tryz.underlying29 hi2 hx0 hx1 hx2 rfl (by decide) (.slice a4 i c4) _ rfl H4.out.2.1.sl _ (mp-(i+1)) (cp-(i+1)) _ rfl HS2.out (mp-1) (by rw [List.nil_append,List.length_take,List.length_drop,List.length_map,HMp.out];omega) (by unfold maxLen;omega) (by omega) ?_);intro a5 c5 w5 G5;have own4:∀ q,Value.ownBlock (.slice a4 i c4)=some q->w2.heap.size<=q:=(fun q hq'=>(H4.out.2.1.at_ q hq').elim id (fun h=>(by simp [Value.ownBlock] at h)));have hb5:=(G5.old (Nat.lt_of_lt_of_le LY.out H4.out.2.2.size) (fun h=>absurd (own4 _ h) (Nat.not_le.2 LY.out))).trans H4.out.1.blk;have c25:=(cell_of_row w5 y 2 _ _ _ hb5).trans (rfl:_=some _);have f25:w5.frozen? ⟨y,2,none⟩=false:=frozen_of_row _ _ _ _ _ hb5;have H5:=hid (And.intro hb5 (And.intro G5 own4));clear hb5 G5 own4))
    all_goals
     go_ret
     have own5:∀ q,Value.ownBlock (.slice a5 (mp-1) c5)=some q->w2.heap.size<=q:=fun q hq'=>by
      rcases H5.out.2.1.at_ q hq' with h | h
      ·exact Nat.le_trans H4.out.2.2.size h
      ·exact H5.out.2.2 q h
     have F5:Fr (fun _=>False) w2 w5:=H5.out.2.1.fr H4.out.2.2 (fun q hq' hlt=>absurd (H5.out.2.2 q hq') (Nat.not_le.2 hlt))
     have F6:Fr (fun q=>q=y) w2 (w5.setCell ⟨y,2,none⟩ (.slice a5 (mp-1) c5)):=(show Fr (fun q=>q=y) w2 w5 from F5.mono (fun _ _ h=>h.elim)).setCell (p:=⟨y,2,none⟩) (fun _=>rfl) _
     have h2:=H1.out.1
     have e3:(outQ K.passes u.sp n).map qRow=[] ++ (K.passes.map qRow).take i ++ (K.passes.map qRow).drop (i+1):=by
      rw [<- O.out,List.map_append,List.map_take,List.map_drop,List.nil_append]
     have SP:Sl (w5.setCell ⟨y,2,none⟩ (.slice a5 (mp-1) c5)) 55 4 (.slice a5 (mp-1) c5) ((outQ K.passes u.sp n).map qRow):=by
      rw [e3]
      exact H5.out.2.1.sl.kept ((Fr.refl (fun q=>q=y) w5).setCell (p:=⟨y,2,none⟩) (fun _=>rfl) _) (fun q hq' e=>by have:=own5 q hq';have:=LY.out;omega)
     have RA:RmAt (w5.setCell ⟨y,2,none⟩ (.slice a5 (mp-1) c5)) y { K with passes:=outQ K.passes u.sp n } (.slice (some ⟨g,0,none⟩) K.threads.length c) (.slice a5 (mp-1) c5) vl sl:=
      ⟨heap_setCell_same w5 y 2 _ _ _ H5.out.1,h2.ln,h2.th.kept F6 (fun q hq' e=>h2.n1 (e ▸ hq')),SP,h2.le.kept F6 (fun q hq' e=>h2.n3 (e ▸ hq')),h2.words (F6.mono (fun q _ e=>.inl e)) (fun k hk hw=>hw.elim .inl (fun hw=>hw.elim (fun hw=>.inr (.inl hw)) (fun hw=>hw.elim (fun hw=>absurd (own5 _ hw) (Nat.not_le.2 hk)) (fun hw=>.inr (.inr (.inr hw)))))),
      h2.n1,fun h=>absurd (own5 _ h) (Nat.not_le.2 LY.out),h2.n3,fun q hq'=>⟨fun h=>absurd (own5 _ h) (Nat.not_le.2 (h2.th.lt hq')),(h2.n4 q hq').2⟩,fun q hq' h=>absurd (own5 _ hq') (Nat.not_le.2 (h2.le.lt h))⟩
     have FF:=(Fr.of_below H1.out.2 (Wr y (.slice (some ⟨g,0,none⟩) K.threads.length c) (.slice (some ⟨gp,0,none⟩) K.passes.length cp) vl)).trans (F6.mono (fun q _ e=>.inl e))
     have OW:∀ q,Value.ownBlock (.slice a5 (mp-1) c5)=some q->Value.ownBlock (.slice (some ⟨gp,0,none⟩) K.passes.length cp)=some q\/w.heap.size<=q:=fun q hq'=>.inr (Nat.le_trans H1.out.2.size (own5 q hq'))
     first
      | exact ⟨.slice a5 (mp-1) c5,by rw [E.out];rfl,by rw [E.out];exact RA,FF,OW⟩
      | exact ⟨by rw [E.out];rfl,.slice a5 (mp-1) c5,by rw [E.out];exact RA,FF,OW⟩
  ·have E:=hid (show K.drop n=(3,K) by unfold RM.drop;rw [if_neg (by rw [HT.out.1];omega),if_neg f])
   have f3:inI n 0 5=false:=by simpa using f
   clear f
   go_wp2_with (go_at_call 106;refine (in_any _ _ _ _).mono ?_;rintro e w2 ⟨rfl,rfl⟩)
   go_ret
   exact ⟨_,by rw [E.out];rfl,by rw [E.out];exact H1.out.1,Fr.of_below H1.out.2 _,fun k hk=>.inl hk⟩
theorem rmDerive_any (y:Nat) (K:RM) (vt vp vl:Value) (sl:List (Sv×Sv)) (a b r:Int) (w:World) (h:RmAt w y K vt vp vl sl) (ft:K.Fit) (hl:K.passes.length<=1000000000000) (ha:Apart K.passes) (hr:∀ (i:Nat) p,K.passes[i]? = some p->1<=p.2.2.2/\p.2.2.2<=3) :
  Calls Tryz.prog 68 #[.pointer (some ⟨y,0,none⟩),.int .i64 a,.int .i64 b,.int .i64 r] w fun e w'=>∃ vp',e=.returned (.int .i64 (K.derive a b r).1)/\RmAt w' y (K.derive a b r).2 vt vp' vl sl/\Fr (Wr y vt vp vl) w w'/\∀ k,vp'.ownBlock=some k->vp.ownBlock=some k\/w.heap.size<=k:=by
 obtain ⟨g,c,rfl,hgy,lg⟩:=h.open ft.one
 have hb:=ft.six
 obtain ⟨m,hm⟩:∃ m,K.threads.length=m:=⟨_,rfl⟩
 have HM:=hid hm
 rw [hm] at hb
 obtain ⟨ap,cp,el⟩:=h.pa.slice
 rw [List.length_map] at el
 subst el
 obtain ⟨i2,hi2,hx0,hx1,hx2⟩:=info_parts Tryz.infoN55
 obtain ⟨mp,hmp⟩:∃ mp,K.passes.length=mp:=⟨_,rfl⟩
 have HMp:=hid hmp
 have HH:=hid (And.intro h (And.intro ft (And.intro hl (And.intro ha hr))))
 clear h ft hm hl ha hr hmp
 go_enter Tryz.func68,Tryz.ntmps68
 go_wp2_with fail
 refine (rmCurrent_any y K _ _ vl sl _ HH.out.1 (by rw [HM.out];exact hb)).mono ?_
 rintro e w1 ⟨rfl,hb1⟩
 have h1:=HH.out.1.below hb1
 have c0:w1.cell? ⟨y,0,none⟩=some (.slice (some ⟨g,0,none⟩) m c):=by rw [<- HM.out];exact (h1.cell 0).trans rfl
 have H1:=hid (And.intro h1 hb1)
 clear h1 hb1
 rcases curM_inv K.threads K.threads.length (Nat.le_refl _) with e | ⟨t,u,e,ht,hu,hst⟩
 ·have E:=hid (show K.derive a b r=(2,K) by unfold RM.derive;rw [if_pos (show K.cur < 0 by unfold RM.cur;omega)])
  rw [show K.cur=-1 from e]
  clear e
  go_wp2
  go_ret
  exact ⟨_,by rw [E.out];rfl,by rw [E.out];exact H1.out.1,Fr.of_below H1.out.2 _,fun k hk=>.inl hk⟩
 ·have ec:K.cur=t:=e
  have eh:K.home=u.sp:=by unfold RM.home;rw [ec,Int.toNat_natCast,hu]
  obtain ⟨su,hsu⟩:=H1.out.1.sl_get hu
  have cg:w1.cell? ⟨g,t*20,none⟩=some (.int .i64 u.sp):=H1.out.1.trange (i:=t) hu hsu 0 _ rfl
  have tm:t < m:=by rw [<- HM.out];exact ht
  have tm':(t:Int) < (m:Int):=by omega
  have us0:=(HH.out.2.1.th t u hu).s0
  rw [ec]
  have HT:=hid (And.intro ec eh)
  clear e ht hu hst ec eh hsu
  have c2:w1.cell? ⟨y,2,none⟩=some (.slice ap mp cp):=by rw [<- HMp.out];exact (H1.out.1.cell 2).trans rfl
  have ly:y < w1.heap.size:=H1.out.1.ly
  clear hgy us0
  by_cases f:inI a 0 5=true/\inI b 0 5=true/\inI r 1 3=true
  ·obtain ⟨f1,f2,f3⟩:=f
   go_wp2_with (go_at_call 106;refine (in_any _ _ _ _).mono ?_;rintro e w2 ⟨rfl,rfl⟩)
   refine (rmPass_any y K _ _ vl sl u.sp a _ H1.out.1 HH.out.2.2.1).mono ?_
   rintro e w2 ⟨q,rfl,hix,rfl⟩
   rcases find_of_ix HH.out.2.2.2.1 hix with ⟨rfl,ef⟩ | ⟨i,p,rfl,hpi,ef,e1,e2⟩
   ·have E:=hid (show K.derive a b r=(4,K) by unfold RM.derive;rw [if_neg (by rw [HT.out.1];omega),if_pos ⟨f1,f2,f3⟩,HT.out.2,ef])
    clear hix ef
    go_wp2
    go_ret
    exact ⟨_,by rw [E.out];rfl,by rw [E.out];exact H1.out.1,Fr.of_below H1.out.2 _,fun k hk=>.inl hk⟩
   ·have hri:=HH.out.2.2.2.2 i p hpi
    have hil:i < mp:=by rw [<- HMp.out];exact (List.getElem?_eq_some_iff.1 hpi).1
    have hil':(i:Int) < (mp:Int):=by omega
    obtain ⟨gp,ea,hx⟩:=H1.out.1.pa.is_some (by rw [HMp.out];omega)
    clear hx
    subst ea
    have r1:=H1.out.1.pa.row (i:=i) (r:=qRow p) (by rw [List.getElem?_map,hpi];rfl)
    have l2:w2.cell? ⟨gp,i*4+2,none⟩=some (.int .i64 p.2.2.1):=r1 2 _ rfl
    have l3:w2.cell? ⟨gp,i*4+3,none⟩=some (.int .i64 p.2.2.2):=r1 3 _ rfl
    have i3:=inI_true.1 f3
    have hbt:=bits_ne (show p.2.2.2=1\/p.2.2.2=2\/p.2.2.2=3 by omega) (show r=1\/r=2\/r=3 by omega)
    have lgp:gp < w2.heap.size:=H1.out.1.pa.lt rfl
    cases hh:hasRt p.2.2.2 r with
    | false=>
     have E:=hid (show K.derive a b r=(4,K) by unfold RM.derive;rw [if_neg (by rw [HT.out.1];omega),if_pos ⟨f1,f2,f3⟩,HT.out.2,ef];simp only;rw [if_neg (by rw [hh];simp)])
     rw [hh] at hbt
     simp only [Bool.not_false] at hbt
     clear hix ef e1 e2 hpi hri r1 i3 hh
     go_wp2
     go_ret
     exact ⟨_,by rw [E.out];rfl,by rw [E.out];exact H1.out.1,Fr.of_below H1.out.2 _,fun k hk=>.inl hk⟩
    | true=>
     have E0:K.derive a b r=(0,{ K with passes:=putQ K.passes u.sp b p.2.2.1 r }):=by unfold RM.derive;rw [if_neg (by rw [HT.out.1];omega),if_pos ⟨f1,f2,f3⟩,HT.out.2,ef];simp only;rw [if_pos hh]
     have E:=hid E0
     rw [hh] at hbt
     simp only [Bool.not_true] at hbt
     clear hix ef e1 e2 hpi hri r1 i3 hh E0
     go_wp2_with fail
     have BX:Below w2.heap.size w2 (w2.alloc (.cells #[.int .i64 u.sp,.int .i64 b,.int .i64 p.2.2.1,.int .i64 r] 55)):=(Below.refl _ w2).alloc (Nat.le_refl _) _
     have H3:=hid (And.intro (H1.out.1.below BX) BX)
     have xb:=heap_alloc_new w2 (.cells #[.int .i64 u.sp,.int .i64 b,.int .i64 p.2.2.1,.int .i64 r] 55)
     have lw3:w2.heap.size < (w2.alloc (.cells #[.int .i64 u.sp,.int .i64 b,.int .i64 p.2.2.1,.int .i64 r] 55)).heap.size:=by simp
     generalize hw3:w2.alloc (.cells #[.int .i64 u.sp,.int .i64 b,.int .i64 p.2.2.1,.int .i64 r] 55)=w3 at *
     have x0:w3.cell? ⟨w2.heap.size,0,none⟩=some (.int .i64 u.sp):=(cell_of_row w3 _ 0 _ _ _ xb).trans rfl
     have x1:w3.cell? ⟨w2.heap.size,1,none⟩=some (.int .i64 b):=(cell_of_row w3 _ 1 _ _ _ xb).trans rfl
     have x2:w3.cell? ⟨w2.heap.size,2,none⟩=some (.int .i64 p.2.2.1):=(cell_of_row w3 _ 2 _ _ _ xb).trans rfl
     have x3:w3.cell? ⟨w2.heap.size,3,none⟩=some (.int .i64 r):=(cell_of_row w3 _ 3 _ _ _ xb).trans rfl
     refine (rmPass_any y K _ _ vl sl u.sp b _ H3.out.1 HH.out.2.2.1).mono ?_
     rintro e w4 ⟨q,rfl,hix,rfl⟩
     have c2':w4.cell? ⟨y,2,none⟩=some (.slice (some ⟨gp,0,none⟩) mp cp):=by rw [<- HMp.out];exact (H3.out.1.cell 2).trans rfl
     have ly4:y < w4.heap.size:=Nat.lt_of_lt_of_le ly H3.out.2.size
     have HX:=hid (And.intro xb hw3)
     clear c0 c2 cg l2 l3 xb hw3 BX
     rcases find_of_ix HH.out.2.2.2.1 hix with ⟨rfl,ef⟩ | ⟨i2',p2,rfl,hpi2,ef,e1,e2⟩
     ·have O:=hid (putQ_new p.2.2.1 r ef)
      have h2:=H3.out.1
      have hmx:mp<=1000000000000:=by have:=HH.out.2.2.1;have:=HMp.out;omega
      have HS:Hid (Sl w4 55 4 (.slice (some ⟨gp,0,none⟩) mp cp) (K.passes.map qRow)):=by have:=h2.pa;rw [HMp.out] at this;exact this
      have hRl:Hid ((K.passes.map qRow).length=mp):=by have:=HMp.out;simpa [Hid] using this
      have hgpy:gp≠y:=fun e=>h2.n2 (by rw [e];rfl)
      generalize hR:K.passes.map qRow=R at HS hRl
      have HR:=hid hR
      clear hix ef h2 hR
      go_wp2_with fail
      go_region_law (refine step_append_sl _ rfl (.tmp 94) (.tmp 96) 29 rfl 55 i2 _ 4 32 Tryz.underlying29 hi2 hx0 hx1 hx2 rfl (by decide) (.slice (some ⟨gp,0,none⟩) mp cp) R (by simp [Act.eval]) ((HS.out.alloc _).drew) ⟨w4.heap.size,0,none⟩ 1 1 [[.int .i64 u.sp,.int .i64 b,.int .i64 p.2.2.1,.int .i64 r]] (by simp [Act.eval]) rfl (by decide) (by simp) (fun j v h=>cell_news w4 #[.int .i64 u.sp,.int .i64 b,.int .i64 p.2.2.1,.int .i64 r] 55 j v (by simpa using h)) (fun v hv=>(List.all_eq_true.1 (show ([[.int .i64 u.sp,.int .i64 b,.int .i64 p.2.2.1,.int .i64 r]].flatten).all (·.oneCell')=true from rfl)) v hv) (by have:=hRl.out;unfold maxLen;omega) (by have:=hRl.out;omega) ?_;intro a5 c5 w5 G5;have hb5:Hid (w5.heap[y]? = w4.heap[y]?):=(G5.old (by simp;omega) (by simpa [Value.ownBlock] using hgpy)).trans (Below.heap_alloc w4 _ _ ly4);have hb6:Hid (w5.heap[y]? = _):=hb5.out.trans H3.out.1.blk;have hc5:=(cell_of_row w5 _ 2 _ _ _ hb6.out).trans (rfl:_=some _);have hf5:w5.frozen? ⟨y,2,none⟩=false:=frozen_of_row _ _ _ _ _ hb6.out)
      all_goals
       go_wp2
       go_ret
       have own5:∀ q,Value.ownBlock (.slice a5 (R.length+1) c5)=some q->q=gp\/w4.heap.size<=q:=fun q hq'=>by
        rcases G5.at_ q hq' with h | h
        ·right;simp at h;omega
        ·left;simpa [Value.ownBlock,eq_comm] using h
       have F5:Fr (fun q=>q=gp) w4 w5:=G5.fr (((Fr.refl _ w4).alloc _).drew) (fun q hq' _=>by simpa [Value.ownBlock,eq_comm] using hq')
       have FS:Fr (fun q=>q=y) w5 (w5.setCell ⟨y,2,none⟩ (.slice a5 (R.length+1) c5)):=(Fr.refl (fun q=>q=y) w5).setCell (p:=⟨y,2,none⟩) (fun _=>rfl) _
       have F6:Fr (fun q=>q=gp\/q=y) w4 (w5.setCell ⟨y,2,none⟩ (.slice a5 (R.length+1) c5)):=(F5.mono (fun _ _ e=>.inl e)).trans (FS.mono (fun _ _ e=>.inr e))
       have h2:=H3.out.1
       have e3:(putQ K.passes u.sp b p.2.2.1 r).map qRow=R ++ [[.int .i64 u.sp,.int .i64 b,.int .i64 p.2.2.1,.int .i64 r]]:=by
        rw [<- O.out,List.map_append,HR.out];rfl
       have SP:=G5.sl.kept FS (fun q hq' e=>by rcases own5 q hq' with h | h <;> omega)
       rw [<- e3] at SP
       have RA:RmAt (w5.setCell ⟨y,2,none⟩ (.slice a5 (R.length+1) c5)) y { K with passes:=putQ K.passes u.sp b p.2.2.1 r } (.slice (some ⟨g,0,none⟩) K.threads.length c) (.slice a5 (R.length+1) c5) vl sl:=
        ⟨heap_setCell_same w5 y 2 _ _ _ hb6.out,h2.ln,h2.th.kept F6 (fun q hq' e=>e.elim (fun e=>(h2.n4 q hq').1 (by rw [e];rfl)) (fun e=>h2.n1 (e ▸ hq'))),SP,h2.le.kept F6 (fun q hq' e=>e.elim (fun e=>h2.n5 gp rfl (by rw [<- e];exact hq')) (fun e=>h2.n3 (e ▸ hq'))),h2.words (F6.mono (fun q _ e=>e.elim (fun e=>.inr (.inr (.inl (by rw [e];rfl)))) .inl)) (fun k hk hw=>hw.elim .inl (fun hw=>hw.elim (fun hw=>.inr (.inl hw)) (fun hw=>hw.elim (fun hw=>by (rcases own5 _ hw with e | e;exact .inr (.inr (.inl (by rw [e];rfl)));omega)) (fun hw=>.inr (.inr (.inr hw)))))),h2.n1,
        fun h=>by (rcases own5 _ h with h | h <;> omega),h2.n3,fun q hq'=>⟨fun h=>by (rcases own5 _ h with e | e;exact (h2.n4 q hq').1 (by rw [e];rfl);have:=h2.th.lt hq';omega),(h2.n4 q hq').2⟩,fun q hq' h=>by (rcases own5 _ hq' with e | e;exact h2.n5 gp rfl (by rw [<- e];exact h);have:=h2.le.lt h;omega)⟩
       have FF:=((Fr.of_below H1.out.2 (Wr y (.slice (some ⟨g,0,none⟩) K.threads.length c) (.slice (some ⟨gp,0,none⟩) K.passes.length cp) vl)).trans (Fr.of_below H3.out.2 _)).trans (F6.mono (fun q _ e=>e.elim (fun e=>.inr (.inr (.inl (by rw [e];rfl)))) .inl))
       have OW:∀ q,Value.ownBlock (.slice a5 (R.length+1) c5)=some q->Value.ownBlock (.slice (some ⟨gp,0,none⟩) K.passes.length cp)=some q\/w.heap.size<=q:=fun q hq'=>by
        rcases own5 q hq' with e | e
        ·left;rw [e];rfl
        ·right;have:=H1.out.2.size;omega
       first
        | exact ⟨.slice a5 (R.length+1) c5,by rw [E.out];rfl,by rw [E.out];exact RA,FF,OW⟩
        | exact ⟨by rw [E.out];rfl,.slice a5 (R.length+1) c5,by rw [E.out];exact RA,FF,OW⟩
     ·have O:=hid (putQ_ix p.2.2.1 r HH.out.2.2.2.1 hpi2 e1 e2)
      have hil2:i2' < mp:=by rw [<- HMp.out];exact (List.getElem?_eq_some_iff.1 hpi2).1
      have hil2':(i2':Int) < (mp:Int):=by omega
      have r1:=H3.out.1.pa.row (i:=i2') (r:=qRow p2) (by rw [List.getElem?_map,hpi2];rfl)
      have g0:w4.cell? ⟨gp,i2'*4,none⟩=some (.int .i64 p2.1):=r1 0 _ rfl
      have g1:w4.cell? ⟨gp,i2'*4+1,none⟩=some (.int .i64 p2.2.1):=r1 1 _ rfl
      have g2:w4.cell? ⟨gp,i2'*4+2,none⟩=some (.int .i64 p2.2.2.1):=r1 2 _ rfl
      have g3:w4.cell? ⟨gp,i2'*4+3,none⟩=some (.int .i64 p2.2.2.2):=r1 3 _ rfl
      have fz0:=H3.out.1.pa.fro (i2'*4)
      have fz1:=H3.out.1.pa.fro (i2'*4+1)
      have fz2:=H3.out.1.pa.fro (i2'*4+2)
      have fz3:=H3.out.1.pa.fro (i2'*4+3)
      have hgpy:gp≠y:=fun e=>H3.out.1.n2 (by rw [e];rfl)
      have hgx:gp≠w2.heap.size:=by omega
      clear hix ef e1 e2 hpi2 r1
      go_wp2_with fail
      go_region
      all_goals
       go_wp2
       go_ret
       have F:Fr (fun q=>q=gp) w4 ((((w4.setCell ⟨gp,i2'*4,none⟩ (.int .i64 u.sp)).setCell ⟨gp,i2'*4+1,none⟩ (.int .i64 b)).setCell ⟨gp,i2'*4+2,none⟩ (.int .i64 p.2.2.1)).setCell ⟨gp,i2'*4+3,none⟩ (.int .i64 r)).drew:=(((((Fr.refl (fun q=>q=gp) w4).setCell (p:=⟨gp,i2'*4,none⟩) (fun _=>rfl) _).setCell (p:=⟨gp,i2'*4+1,none⟩) (fun _=>rfl) _).setCell (p:=⟨gp,i2'*4+2,none⟩) (fun _=>rfl) _).setCell (p:=⟨gp,i2'*4+3,none⟩) (fun _=>rfl) _).drew
       have h2:=H3.out.1
       have SP:=(h2.pa.put4 i2' (by rw [List.length_map,HMp.out];exact hil2) (.int .i64 u.sp) (.int .i64 b) (.int .i64 p.2.2.1) (.int .i64 r)).drew
       have e3:(K.passes.map qRow).set i2' [.int .i64 u.sp,.int .i64 b,.int .i64 p.2.2.1,.int .i64 r]=(putQ K.passes u.sp b p.2.2.1 r).map qRow:=by
        rw [<- O.out,List.map_set];rfl
       rw [e3] at SP
       refine ⟨_,by rw [E.out];rfl,?_,((Fr.of_below H1.out.2 _).trans (Fr.of_below H3.out.2 _)).trans (F.mono (fun q _ e=>.inr (.inr (.inl (by rw [e];rfl))))),fun k hk=>.inl hk⟩
       rw [E.out]
       exact ⟨(F.block y ly4 (fun e=>hgpy e.symm)).trans h2.blk,h2.ln,h2.th.kept F (fun q hq' e=>(h2.n4 q hq').1 (by rw [e];rfl)),SP,h2.le.kept F (fun q hq' e=>h2.n5 gp rfl (by rw [<- e];exact hq')),h2.words (F.mono (fun q _ e=>.inr (.inr (.inl (by rw [e];rfl))))) (fun _ _ h=>h),h2.n1,h2.n2,h2.n3,h2.n4,h2.n5⟩
  ·have E:=hid (show K.derive a b r=(3,K) by unfold RM.derive;rw [if_neg (by rw [HT.out.1];omega),if_neg f])
   have f4:¬ (inI a 0 5=true)\/¬ (inI b 0 5=true)\/¬ (inI r 1 3=true):=by
    by_cases g1:inI a 0 5=true
    ·by_cases g2:inI b 0 5=true
     ·exact .inr (.inr (fun g3=>f ⟨g1,g2,g3⟩))
     ·exact .inr (.inl g2)
    ·exact .inl g1
   clear f
   rcases f4 with f4 | f4 | f4
   ·have f5:inI a 0 5=false:=by simpa using f4
    clear f4
    go_wp2_with (go_at_call 106;refine (in_any _ _ _ _).mono ?_;rintro e w2 ⟨rfl,rfl⟩)
    go_ret
    exact ⟨_,by rw [E.out];rfl,by rw [E.out];exact H1.out.1,Fr.of_below H1.out.2 _,fun k hk=>.inl hk⟩
   ·have f5:inI b 0 5=false:=by simpa using f4
    clear f4
    cases f6:inI a 0 5 <;>
    ·go_wp2_with (go_at_call 106;refine (in_any _ _ _ _).mono ?_;rintro e w2 ⟨rfl,rfl⟩)
     go_ret
     exact ⟨_,by rw [E.out];rfl,by rw [E.out];exact H1.out.1,Fr.of_below H1.out.2 _,fun k hk=>.inl hk⟩
   ·have f5:inI r 1 3=false:=by simpa using f4
    clear f4
    cases f6:inI a 0 5 <;> cases f7:inI b 0 5 <;>
    ·go_wp2_with (go_at_call 106;refine (in_any _ _ _ _).mono ?_;rintro e w2 ⟨rfl,rfl⟩)
     go_ret
     exact ⟨_,by rw [E.out];rfl,by rw [E.out];exact H1.out.1,Fr.of_below H1.out.2 _,fun k hk=>.inl hk⟩
end Go.Proofs.YteejjgbeknnmeaaGreatDoor
