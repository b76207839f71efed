import Derived.Test.YteejjgbeknnmeaaGreatDoorH12
import Derived.Test.YteejjgbeknnmeaaGreatDoorH16
import Derived.Test.YteejjgbeknnmeaaGreatDoorH13
import Derived.Test.YteejjgbeknnmeaaGreatDoorH10
import Derived.Test.YteejjgbeknnmeaaGreatDoorH14
import Derived.Test.YteejjgbeknnmeaaGreatDoorH15
set_option maxRecDepth 100000
set_option maxHeartbeats 20000000
namespace Go.Proofs.YteejjgbeknnmeaaGreatDoor
open Go.RowKit
theorem KLeft.then {w w1 w2:World}{B:Bk}{S S1:Nat->Prop}{act:Nat->Prop}{K:RM}(o1:∀ b,S1 b->S b\/w.heap.size<=b) (F1:Fr S w w1) (h:KLeft B S1 act K w1 w2):KLeft B S act K w w2:=by
 obtain ⟨M,⟨⟨S',h',o'⟩,F'⟩,R⟩:=h
 exact ⟨M,⟨⟨S',h',fun i hi=>(o' i hi).elim (o1 i) (fun e=>.inr (Nat.le_trans F1.size e))⟩,F1.next F' o1⟩,R⟩
theorem giveUp_rel (B:Bk) (S:Nat->Prop) (M:PM) (K:RM) (b t:Nat) (u:Th) (w:World) (h:PRep w B S M) (R:Rel none_ M K) (ft:K.Fit) (nm:K.Num b) (hu:K.threads[t]? = some u) (s1:u.st≠1) :
  Calls Tryz.prog 80 #[.pointer (some ⟨B.x,0,none⟩),.int .i64 t] w fun e w'=>e=.returned (.tuple #[])/\KLeft B S none_ ((K.over t 6).toLast t) w w':=by
 obtain ⟨p,hp,RT⟩:=R.get hu
 have h6:=R.six ft
 have htl:=(List.getElem?_eq_some_iff.1 hp).1
 have hh:=h
 obtain ⟨cs,rv,sl,at_,hS⟩:=h
 obtain ⟨s0,hs0⟩:=at_.sl_get hp
 have hc1:=(at_.cell 1).trans at_.c1
 have k3:=(at_.tcell hp hs0 3 (by omega)).trans (show (prow p s0)[3]? = some (.int .i64 p.st) from rfl)
 have k8:=(at_.tcell hp hs0 8 (by omega)).trans (show (prow p s0)[8]? = some (.int .i64 p.tgt) from rfl)
 rw [RT.st] at k3
 have e0:Hid (∀ i,none_ i↔Wo (only t) t i):=fun i=>⟨fun h=>h.elim,fun h=>h.2 h.1⟩
 have e1:∀ i,only t i↔Wi none_ t i:=fun i=>⟨.inr,fun h=>h.elim (fun h=>h.elim) id⟩
 by_cases c2:u.st=2
 ·have sd:=RT.send c2 id
  obtain ⟨r,hr,hrl⟩:=sd.1
  obtain ⟨q,hq⟩:∃ q,M.threads[r]? = some q:=⟨_,List.getElem?_eq_getElem (by rw [R.len];exact hrl)⟩
  rw [sd.2.1,hr] at k8
  have hm:t∈q.wl:=((R.wl r q hq).mem t).2 ⟨u,hu,c2,hr,id⟩
  have R2:=(R.leaves hq hm).acts e1
  have HL:=hid (wlLeave_left B S M r t q w.drew hh.drew hq (R.wlL ft hq) (R.wlN hq))
  have HE:Hid (∀ S1 w1,PRep w1 B S1 (M.upd r (fun p=>{ p with wl:=q.wl.erase t }))->_):=fun S1 w1 h1=>end_rel B S1 (only t) _ K 0 b 6 t u false w1 h1 R2 ft nm hu (.inr rfl) ⟨fun e=>by simp at e,fun e=>absurd e s1⟩
  simp only [Bool.false_eq_true,if_false] at HE
  have hrm:r < M.threads.length:=by rw [R.len];exact hrl
  rw [c2] at k3
  generalize hmm:M.threads.length=m at *
  have ht':(t:Int) < (m:Int):=by omega
  have hr':(r:Int) < (m:Int):=by omega
  clear at_ hs0 hS hh R ft nm hu RT sd hq hm R2 hp hmm c2 s1
  go_enter Tryz.func80,Tryz.ntmps80
  go_wp2
  go_region_with (go_at_call 124;refine HL.out.mono ?_;rintro e w2 ⟨rfl,L⟩;replace L:=hid L)
  all_goals
   obtain ⟨⟨S2,h2,o2⟩,F2⟩:=L.out
   have E2:=hid (HE.out S2 w2 h2)
   have OF:=hid (And.intro o2 F2)
   clear h2 o2 F2 L
   go_wp2_with (go_at_call 125;refine E2.out.mono ?_;rintro e w3 ⟨rfl,L3⟩;replace L3:=hid L3)
   go_end0
   exact ⟨rfl,((L3.out.acts e0.out).then OF.out.1 OF.out.2).drewL⟩
 ·have c3:u.st=3:=by have:=(ft.th t u hu).st;omega
  have R2:=(R.enters hu c3).acts e1
  have HE:=hid (end_rel B S (only t) M K 0 b 6 t u false w hh R2 ft nm hu (.inr rfl) ⟨fun e=>by simp at e,fun e=>absurd e s1⟩)
  simp only [Bool.false_eq_true,if_false] at HE
  rw [c3] at k3
  generalize hmm:M.threads.length=m at *
  have ht':(t:Int) < (m:Int):=by omega
  clear at_ hs0 hS hh R ft nm hu RT R2 hp hmm c2 s1
  go_enter Tryz.func80,Tryz.ntmps80
  go_wp2_with (go_at_call 125;refine HE.out.mono ?_;rintro e w3 ⟨rfl,L3⟩;replace L3:=hid L3)
  go_end0
  exact ⟨rfl,L3.out.acts e0.out⟩
theorem endTurn_rel (B:Bk) (S:Nat->Prop) (M:PM) (K:RM) (b t:Nat) (u:Th) (w:World) (h:PRep w B S M) (R:Rel none_ M K) (ft:K.Fit) (nm:K.Num b) (hu:K.threads[t]? = some u) (s1:u.st=1) :
  Calls Tryz.prog 83 #[.pointer (some ⟨B.x,0,none⟩),.int .i64 t] w fun e w'=>e=.returned (.tuple #[])/\KLeft B S none_ ((K.setLeft t 3).toLast t) w w':=by
 obtain ⟨p,hp,RT⟩:=R.get hu
 obtain ⟨r,hr,h4,er⟩:=R.rowN ft hu hp
 refine (endTurn_any B S M t p r w h hp (R.six ft) hr h4 (R.lnL ft h4) (R.lnN h4)).mono ?_
 rintro e w' ⟨rfl,L⟩
 have hu2:(K.setLeft t 3).threads[t]? = some { u with left:=3 }:=get_modify _ hu
 have R2:=R.setLeft hu 3 (fun p=>{ p with left:=3 }) (fun _ _=>rfl)
 have ft2:(K.setLeft t 3).Fit:=ft.upd t _ (fun x hx=>by have f:=ft.th t x hx;exact ⟨f.s0,f.s1,f.r0,f.r1,by show (1:Int)<=3;omega,by show (3:Int)<=3;omega,f.mw,f.ws,f.win,f.st,f.ot⟩)
 have R3:=R2.toLast ft2 (num_clo.setLeft b K t 3 nm) hu2 s1
 have er2:({ u with left:=3 }:Th).row.toNat=r:=er
 rw [er2] at R3
 exact ⟨rfl,_,L,R3⟩
theorem spend_rel (B:Bk) (S:Nat->Prop) (M:PM) (K:RM) (b t:Nat) (u:Th) (w:World) (h:PRep w B S M) (R:Rel none_ M K) (ft:K.Fit) (nm:K.Num b) (hc:K.cur=t) (hu:K.threads[t]? = some u) (s1:u.st=1) :
  Calls Tryz.prog 79 #[.pointer (some ⟨B.x,0,none⟩),.int .i64 t] w fun e w'=>e=.returned (.tuple #[])/\KLeft B S none_ K.spent w w':=by
 obtain ⟨p,hp,RT⟩:=R.get hu
 obtain ⟨r,hr,h4,er⟩:=R.rowN ft hu hp
 have fu:=ft.th t u hu
 have es:K.spent=if u.left-1=0 then (K.setLeft t 3).toLast t else K.setLeft t (u.left-1):=by
  unfold RM.spent
  rw [hc,Int.toNat_natCast,hu]
  simp only
  rw [if_neg (by omega)]
 rw [es]
 by_cases e1:u.left=1
 ·rw [if_pos (by omega)]
  refine (spend_end B S M t p r w h hp (R.six ft) (by rw [RT.left];exact e1) hr h4 (R.lnL ft h4) (R.lnN h4)).mono ?_
  rintro e w' ⟨rfl,L⟩
  have hu2:(K.setLeft t 3).threads[t]? = some { u with left:=3 }:=get_modify _ hu
  have R2:=R.setLeft hu 3 (fun p=>{ p with left:=3 }) (fun _ _=>rfl)
  have ft2:(K.setLeft t 3).Fit:=ft.upd t _ (fun x hx=>by have f:=ft.th t x hx;exact ⟨f.s0,f.s1,f.r0,f.r1,by show (1:Int)<=3;omega,by show (3:Int)<=3;omega,f.mw,f.ws,f.win,f.st,f.ot⟩)
  have R3:=R2.toLast ft2 (num_clo.setLeft b K t 3 nm) hu2 s1
  have er2:({ u with left:=3 }:Th).row.toNat=r:=er
  rw [er2] at R3
  exact ⟨rfl,_,L,R3⟩
 ·have h1:=fu.l0
  have h2:=fu.l1
  rw [if_neg (by omega)]
  refine (spend_more B S M t p w h hp (R.six ft) (by rw [RT.left];omega) (by rw [RT.left];omega)).mono ?_
  rintro e w' ⟨rfl,L⟩
  refine ⟨rfl,_,L,R.setLeft hu (u.left-1) _ (fun q hq=>?_)⟩
  rw [hp] at hq
  cases hq
  rw [RT.left]
open Go.RowKit
abbrev mC (m:Ms) (sa:Option Addr) (sc:Nat):Array Value:=#[.int .i64 m.dst,.slice sa m.words.length sc,.int .i64 m.item,.int .i64 m.rt,.int .i64 m.frm,.int .i64 m.win,.int .i64 m.wait]
def MsgOk:Prop:=∀ (B:Bk) (S:Nat->Prop) (M:PM) (k:Nat) (m:Ms) (sa:Option Addr) (sc:Nat) (w:World),PRep w B S M->M.threads.length=k->k<=6 ->
  Calls Tryz.prog 84 #[.pointer (some ⟨B.x,0,none⟩),.agg (mC m sa sc)] w fun e w'=>e=.returned (.bool (isMs k m))/\Below w.heap.size w w'
def talkV (m:Ms):Array Value:=#[.int .i64 0,.slice none 0 0,.int .i64 0,.int .i64 0,.int .i64 m.frm,.int .i64 m.win,.int .i64 m.wait,.int .u64 0]
def parV (a:Option Addr) (n c:Nat) (i r:Int):Array Value:=#[.slice a n c,.int .i64 i,.int .i64 r]
theorem talk_one (m:Ms):(talkV m).all (·.oneCell')=true:=by simp [talkV,Value.oneCell']
theorem par_one (a:Option Addr) (n c:Nat) (i r:Int):(parV a n c i r).all (·.oneCell')=true:=by simp [parV,Value.oneCell']
theorem cells7 {w:World}{g:Nat}{m:Ms}{sa:Option Addr}{sc:Nat}(h:w.heap[g]? = some (.cells (mC m sa sc) 43 (0,0))) :
  w.cell? ⟨g,0,none⟩=some (.int .i64 m.dst)/\w.cell? ⟨g,1,none⟩=some (.slice sa m.words.length sc)/\w.cell? ⟨g,2,none⟩=some (.int .i64 m.item)/\w.cell? ⟨g,3,none⟩=some (.int .i64 m.rt)/\w.cell? ⟨g,4,none⟩=some (.int .i64 m.frm)/\w.cell? ⟨g,5,none⟩=some (.int .i64 m.win)/\w.cell? ⟨g,6,none⟩=some (.int .i64 m.wait):=
 ⟨(cell_of_row w g 0 _ _ _ h).trans rfl,(cell_of_row w g 1 _ _ _ h).trans rfl,(cell_of_row w g 2 _ _ _ h).trans rfl,(cell_of_row w g 3 _ _ _ h).trans rfl,(cell_of_row w g 4 _ _ _ h).trans rfl,(cell_of_row w g 5 _ _ _ h).trans rfl,(cell_of_row w g 6 _ _ _ h).trans rfl⟩
theorem there_part {w:World}{b o n k l:Nat}(h:w.there b o n) (hk:k+l<=n):w.there b (o+k) l:=fun j hj=>by
 have:=h (k+j) (by omega)
 rwa [<- Nat.add_assoc] at this
theorem PmAt.tthere {w:World}{B:Bk}{M:PM}{cs:Array Value}{rv:Nat->Value}{sl:List (Sv×Sv×Value)}(h:PmAt w B M cs rv sl){t:Nat}(ht:t < M.threads.length):w.there B.g (t*17) 17:=h.th.there t (by rw [prows_len h.ln];exact ht)
theorem talk_state {w:World}{B:Bk}{S:Nat->Prop}{M:PM}(h:PRep w B S M){t:Nat}{p:PT}(hp:M.threads[t]? = some p) (m:Ms) :
  w.there B.g (t*17+8) (talkV m).size/\PLeft B S (M.upd t (askP m)) w (w.setCells B.g (t*17+8) (talkV m).toList)/\Fr (fun q=>q=B.g) w (w.setCells B.g (t*17+8) (talkV m).toList)/\S B.g:=by
 obtain ⟨cs,rv,sl,h,hS⟩:=h
 obtain ⟨s,hs⟩:=h.sl_get hp
 have ht:=(List.getElem?_eq_some_iff.1 hp).1
 have P:=h.run hp hs 8 (talkV m).toList (askP m) (s.1,Sv.nil,s.2.2) (by simp [talkV]) rfl rfl rfl (h.wd t p s hp hs).1 (PWd.nil _ _ _ _ _)
 refine ⟨there_part (h.tthere ht) (by simp [talkV]),PLeft.of hS (by simp [PM.upd]) P.1 (fun k hk=>pown_set (s':=(s.1,Sv.nil,s.2.2)) hs rfl (fun k hk=>.inl (.inr ⟨t,s,hs,.inl hk⟩)) (fun k hk=>by simp [inBlock,Sv.nil] at hk) k hk) P.2 (fun k e=>.inl (.inr (.inl e))),P.2,(hS _).2 (.inl (.inr (.inl rfl)))⟩
theorem parcel_state {w w3:World}{B:Bk}{S:Nat->Prop}{M:PM}(h:PRep w B S M){t:Nat}{p:PT}(hp:M.threads[t]? = some p) (l:List Int) (i r:Int) (a:Option Addr) (c:Nat) (hl:l.length<=4) (G:Grew 2 1 (.slice none 0 0) w (.slice a l.length c) ([] ++ l.map lnI) w3) :
  w3.there B.g (t*17+9) (parV a l.length c i r).size/\PLeft B S (M.upd t (fun p=>{ p with pw:=l,item:=i,rt:=r })) w (w3.setCells B.g (t*17+9) (parV a l.length c i r).toList)/\Fr (fun q=>q=B.g) w (w3.setCells B.g (t*17+9) (parV a l.length c i r).toList)/\Fr (fun _=>False) w w3:=by
 obtain ⟨cs,rv,sl,h,hS⟩:=h
 obtain ⟨s,hs⟩:=h.sl_get hp
 have ht:=(List.getElem?_eq_some_iff.1 hp).1
 have F3:Fr (fun _=>False) w w3:=G.fr (Fr.refl _ w) (fun k hk=>by simp [Value.ownBlock] at hk)
 have h3:=h.kept F3 (fun _ _ h=>h)
 have G1:=G.sl
 rw [List.nil_append] at G1
 have hin:Inl w3 1 (.slice a l.length c) (l.map lnI):=G1.toInl (by unfold maxLen;omega)
 have hnew:∀ k,inBlock (.slice a l.length c)=some k->w.heap.size<=k/\k < w3.heap.size:=fun k hk=>by
  have hk':Value.ownBlock (.slice a l.length c)=some k:=by
   cases a with
   | none=>simp [inBlock] at hk
   | some x=>
    cases l with
    | nil=>simp [inBlock] at hk
    | cons y ys=>simpa [inBlock,Value.ownBlock] using hk
  refine ⟨?_,G1.lt hk'⟩
  rcases G.at_ k hk' with e | e
  ·exact e
  ·simp [Value.ownBlock] at e
 have P:=h3.run hp hs 9 (parV a l.length c i r).toList (fun p=>{ p with pw:=l,item:=i,rt:=r }) (s.1,⟨a,l.length,c⟩,s.2.2) (by simp [parV]) rfl rfl rfl (h3.wd t p s hp hs).1 ⟨hin,fun k hk=>⟨(hnew k hk).2,fun hw=>by have:=h.wlt hw;have:=(hnew k hk).1;omega⟩⟩
 have F:Fr (fun q=>q=B.g) w (w3.setCells B.g (t*17+9) (parV a l.length c i r).toList):=(F3.mono (fun _ _ h=>h.elim)).trans P.2
 refine ⟨there_part (h3.tthere ht) (by simp [parV]),PLeft.of hS (by simp [PM.upd]) P.1 (fun k hk=>pown_set (s':=(s.1,⟨a,l.length,c⟩,s.2.2)) hs rfl (fun k hk=>.inl (.inr ⟨t,s,hs,.inl hk⟩)) (fun k hk=>.inr (hnew k hk).1) k hk) F (fun k e=>.inl (.inr (.inl e))),F,F3⟩
theorem PRep.ltS {w:World}{B:Bk}{S:Nat->Prop}{M:PM}(h:PRep w B S M){k:Nat}(hk:S k):k < w.heap.size:=by
 obtain ⟨cs,rv,sl,h,hS⟩:=h
 exact h.lt ((hS k).1 hk)
section
variable (IM:MsgOk) (B:Bk) (S:Nat->Prop) (M:PM) (K:RM) (n t:Nat) (u:Th) (p:PT) (m:Ms) (sa:Option Addr) (sc:Nat) (w:World)
theorem mIpc_no (h:KR w B S K) (ok:K.Ok n) (hc:K.cur < 0) :
  Calls Tryz.prog 47 #[.pointer (some ⟨B.x,0,none⟩),.agg (mC m sa sc)] w fun e w'=>Ans 2 e w w':=by
 obtain ⟨M,h,R⟩:=h
 have hb:Below w.heap.size w (w.alloc (.cells (mC m sa sc) 43)):=(Below.refl _ w).alloc (Nat.le_refl _) _
 have HC:=hid (caller_no B S M K _ (h.below hb) R ok.ft hc)
 have HB:=hid hb
 have hne:=e2_ne
 clear h R ok hc hb
 go_enter Tryz.func47,Tryz.ntmps47
 go_wp2_with (go_at_call 82;refine HC.out.mono ?_;rintro e w2 ⟨rfl,rfl⟩)
 go_ret
 exact .inr ⟨_,rfl,HB.out⟩
include IM in
theorem mIpc_arg (h:PRep w B S M) (R:Rel none_ M K) (ok:K.Ok n) (hc:K.cur=t) (hm:isMs K.threads.length m=false) :
  Calls Tryz.prog 47 #[.pointer (some ⟨B.x,0,none⟩),.agg (mC m sa sc)] w fun e w'=>Ans 3 e w w':=by
 have hb:Below w.heap.size w (w.alloc (.cells (mC m sa sc) 43)):=(Below.refl _ w).alloc (Nat.le_refl _) _
 have HC:=hid (caller_yes B S M K t _ (h.below hb) R ok.ft hc)
 have HI:=hid (IM B S M _ m sa sc _ (h.below hb) R.len ok.ft.six)
 rw [hm] at HI
 have HB:=hid hb
 clear h R ok hc hb hm
 go_enter Tryz.func47,Tryz.ntmps47
 go_wp2_with (first
  | (go_at_call 82;refine HC.out.mono ?_;rintro e w2 ⟨rfl,rfl⟩)
  | (go_at_call 84;refine HI.out.mono ?_;rintro e w2 ⟨rfl,H2⟩;replace H2:=hid H2))
 go_ret
 exact .inr ⟨_,rfl,HB.out.trans (H2.out.mono HB.out.size)⟩
structure Asked (B:Bk) (S:Nat->Prop) (M:PM) (m:Ms) (t:Nat) (sa:Option Addr) (sc:Nat) (w w2:World):Prop where
 l:PLeft B S (M.upd t (askP m)) w w2
 b:w2.heap[w.heap.size]? = some (.cells (mC m sa sc) 43 (0,0))
theorem asked_of (h:PRep w B S M) (hp:M.threads[t]? = some p){w1:World}(hb:Below (w.alloc (.cells (mC m sa sc) 43)).heap.size (w.alloc (.cells (mC m sa sc) 43)) w1) :
  w1.there B.g (t*17+8) (talkV m).size/\Asked B S M m t sa sc w (w1.setCells B.g (t*17+8) (talkV m).toList)/\w1.heap[w.heap.size]? = some (.cells (mC m sa sc) 43 (0,0))/\Below w.heap.size w w1:=by
 have b1:Below w.heap.size w w1:=((Below.refl _ w).alloc (Nat.le_refl _) _).trans (hb.mono (by simp))
 have h1:=h.below b1
 have T:=talk_state h1 hp m
 have lg:B.g < w.heap.size:=h.ltS T.2.2.2
 have e1:w1.heap[w.heap.size]? = some (.cells (mC m sa sc) 43 (0,0)):=(hb.block _ (by simp)).trans (heap_alloc_new w _)
 refine ⟨T.1,⟨?_,(T.2.2.1.block _ (by have:=(Array.getElem?_eq_some_iff.1 e1).1;exact this) (by omega)).trans e1⟩,e1,b1⟩
 exact (PLeft.below h b1).next (fun S' h'=>by
  have T':=talk_state h' hp m
  exact T'.2.1)
include IM in
theorem mIpc_recv (h:PRep w B S M) (R:Rel none_ M K) (ok:K.Ok n) (hc:K.cur=t) (hu:K.threads[t]? = some u) (s1:u.st=1) (hp:M.threads[t]? = some p) (hm:isMs K.threads.length m=true) (hd:m.dst=-1) :
  Calls Tryz.prog 47 #[.pointer (some ⟨B.x,0,none⟩),.agg (mC m sa sc)] w fun e w'=>e=.returned .nilIface/\KLeft B S none_ (K.ipc m).2 w w':=by
 have hb:Below w.heap.size w (w.alloc (.cells (mC m sa sc) 43)):=(Below.refl _ w).alloc (Nat.le_refl _) _
 have HC:=hid (caller_yes B S M K t _ (h.below hb) R ok.ft hc)
 have HI:=hid (IM B S M _ m sa sc _ (h.below hb) R.len ok.ft.six)
 rw [hm] at HI
 have mi:=isMs_in hm
 have E:=hid (ipc_recv hc hm (by omega))
 have HA:Hid (∀ {w1:World},Below (w.alloc (.cells (mC m sa sc) 43)).heap.size (w.alloc (.cells (mC m sa sc) 43)) w1->_):=fun {w1} hb=>asked_of B S M t p m sa sc w h hp hb
 have HX:Hid (∀ w1:World,Below w.heap.size w w1->w1.cell? ⟨B.x,1,none⟩=some (.slice (some ⟨B.g,0,none⟩) M.threads.length B.c)):=fun w1 b=>by
  obtain ⟨cs,rv,sl,hq,_⟩:=h.below b
  exact (hq.cell 1).trans hq.c1
 have HR:Hid (∀ w2:World,PLeft B S (M.upd t (askP m)) w w2->Calls Tryz.prog 85 #[.pointer (some ⟨B.x,0,none⟩),.int .i64 t] w2 fun e w'=>e=.returned (.tuple #[])/\KLeft B S none_ ((K.asks t m).recv 7 t true) w w'):=fun w2 L=>by
  obtain ⟨⟨S',h',o'⟩,F'⟩:=L
  have hu2:(K.asks t m).threads[t]? = some { u with dst:=m.dst,mw:=m.words,item:=m.item,rt:=m.rt,frm:=m.frm,win:=m.win,wait:=m.wait }:=get_modify _ hu
  have R2:Rel (only t) (M.upd t (askP m)) (K.asks t m):=(R.asks hu s1 m (by omega)).acts (fun i=>by unfold Wi none_ only;simp)
  refine (recv_rel 7 B S' _ (K.asks t m) _ t _ true w2 h' R2 (ok.ft.asks t m mi.2.2.2.2.2.1 (by omega)) (num_clo.asks _ K t m ok.nm) hu2 (by simp [s1]) ?_).mono ?_
  ·have:=sending_le (K.asks t m).threads
   have e9:(K.asks t m).threads.length=K.threads.length:=by simp [RM.asks,RM.upd]
   have:=ok.ft.six
   split <;> omega
  ·rintro e w' ⟨rfl,L2⟩
   exact ⟨rfl,KLeft.then o' F' L2⟩
 have tl:=(List.getElem?_eq_some_iff.1 hp).1
 have h6:=R.six ok.ft
 have lg:=(h.ltS (talk_state h hp m).2.2.2)
 have lx:B.x < w.heap.size:=by obtain ⟨cs,rv,sl,hq,_⟩:=h;exact hq.lx
 have hd':(m.dst == -1)=true:=by simp [hd]
 generalize M.threads.length=k at *
 have tl':(t:Int) < (k:Int):=by omega
 clear h R ok hc hb hm mi hu s1 hp hd
 go_enter Tryz.func47,Tryz.ntmps47
 go_wp2_with (first
  | (go_at_call 82;refine HC.out.mono ?_;rintro e w2 ⟨rfl,rfl⟩)
  | (go_at_call 84;refine HI.out.mono ?_;rintro e w1 ⟨rfl,H1⟩;have A1:=HA.out H1;have x1:=HX.out w1 A1.2.2.2;obtain ⟨c0,c1,c2,c3,c4,c5,c6⟩:=cells7 A1.2.2.1;have HT:=hid A1.1;have H2:=hid A1.2.1;clear H1 A1)
  | (with_reducible (show wpList _ _ _ (⟨_,.store 156 _ _,_,_,_,none⟩ :: _) _ _);go_must (refine wpList_store_mid rfl 156 _ _ rfl B.g (t*17+8) (talkV m) rfl rfl HT.out (by kernel_rfl) (talk_one m) ?_);go_must (clear HT c0 c1 c2 c3 c4 c5 c6 x1);go_must (generalize w1.setCells B.g (t*17+8) (talkV m).toList=w2 at H2 ⊢);go_must (have d0:=(cells7 H2.out.b).1))
  | (go_at_call 85;refine (HR.out w2 H2.out.l).mono ?_;rintro e w3 ⟨rfl,H3⟩;replace H3:=hid H3))
 go_ret
 rw [E.out]
 exact ⟨rfl,H3.out⟩
structure Packed (B:Bk) (S:Nat->Prop) (M:PM) (m:Ms) (t:Nat) (sa:Option Addr) (sc:Nat) (w w4:World):Prop where
 l:PLeft B S ((M.upd t (askP m)).upd t (fun p=>{ p with pw:=m.words,item:=m.item,rt:=m.rt })) w w4
 b:w4.heap[w.heap.size]? = some (.cells (mC m sa sc) 43 (0,0))
theorem packed_of (h:PRep w B S M) (hp:M.threads[t]? = some p) (hl:m.words.length<=4){w2 w3:World}(A:Asked B S M m t sa sc w w2){a:Option Addr}{c:Nat}(G:Grew 2 1 (.slice none 0 0) w2 (.slice a m.words.length c) ([] ++ m.words.map lnI) w3) :
  w3.there B.g (t*17+9) (parV a m.words.length c m.item m.rt).size/\Packed B S M m t sa sc w (w3.setCells B.g (t*17+9) (parV a m.words.length c m.item m.rt).toList)/\w3.heap[w.heap.size]? = some (.cells (mC m sa sc) 43 (0,0)):=by
 obtain ⟨⟨⟨S',h',o'⟩,F'⟩,b2⟩:=A
 have hp2:(M.upd t (askP m)).threads[t]? = some (askP m p):=get_modify _ hp
 have T:=parcel_state h' hp2 m.words m.item m.rt a c hl G
 have lg:B.g < w.heap.size:=h.ltS (talk_state h hp m).2.2.2
 have l2:w.heap.size < w2.heap.size:=(Array.getElem?_eq_some_iff.1 b2).1
 refine ⟨T.1,⟨?_,(T.2.2.1.block _ l2 (by omega)).trans b2⟩,(T.2.2.2.block _ l2 (fun h=>h)).trans b2⟩
 exact PLeft.next (M1:=M.upd t (askP m)) ⟨⟨S',h',o'⟩,F'⟩ (fun S2 h2=>(parcel_state h2 hp2 m.words m.item m.rt a c hl G).2.1)
include IM in
theorem mIpc_send (h:PRep w B S M) (R:Rel none_ M K) (ok:K.Ok n) (hc:K.cur=t) (hu:K.threads[t]? = some u) (s1:u.st=1) (hp:M.threads[t]? = some p) (hm:isMs K.threads.length m=true) (hd:0<=m.dst)
  (hI:Inl w 1 (.slice sa m.words.length sc) (m.words.map lnI)) (hN:∀ k,inBlock (.slice sa m.words.length sc)=some k->¬ S k) :
  Calls Tryz.prog 47 #[.pointer (some ⟨B.x,0,none⟩),.agg (mC m sa sc)] w fun e w'=>e=.returned .nilIface/\(K.ipc m).1=0/\KLeft B S none_ (K.ipc m).2 w w':=by
 have hb:Below w.heap.size w (w.alloc (.cells (mC m sa sc) 43)):=(Below.refl _ w).alloc (Nat.le_refl _) _
 have HC:=hid (caller_yes B S M K t _ (h.below hb) R ok.ft hc)
 have HI:=hid (IM B S M _ m sa sc _ (h.below hb) R.len ok.ft.six)
 rw [hm] at HI
 have mi:=isMs_in hm
 obtain ⟨i0,hi0,hz0,hz1,hz2⟩:=info_parts Tryz.infoN2
 have HA:Hid (∀ {w1:World},Below (w.alloc (.cells (mC m sa sc) 43)).heap.size (w.alloc (.cells (mC m sa sc) 43)) w1->_):=fun {w1} hb=>asked_of B S M t p m sa sc w h hp hb
 have HP:Hid (∀ {w2 w3:World}{a:Option Addr}{c:Nat},Asked B S M m t sa sc w w2->Grew 2 1 (.slice none 0 0) w2 (.slice a m.words.length c) ([] ++ m.words.map lnI) w3->_):=fun {w2 w3 a c} A G=>packed_of B S M t p m sa sc w h hp mi.2.2.2.2.2.1 A G
 have HX:Hid (∀ w1:World,Below w.heap.size w w1->w1.cell? ⟨B.x,1,none⟩=some (.slice (some ⟨B.g,0,none⟩) M.threads.length B.c)):=fun w1 b=>by
  obtain ⟨cs,rv,sl,hq,_⟩:=h.below b
  exact (hq.cell 1).trans hq.c1
 have HW:Hid (∀ w2:World,Asked B S M m t sa sc w w2->Inl w2 1 (.slice sa m.words.length sc) (m.words.map lnI)):=fun w2 A=>hI.kept (by omega) A.l.2 hN
 have HR:Hid (∀ w4:World,Packed B S M m t sa sc w w4->Calls Tryz.prog 86 #[.pointer (some ⟨B.x,0,none⟩),.int .i64 t,.int .i64 m.dst] w4 fun e w'=>e=.returned (.tuple #[])/\(K.ipc m).1=0/\KLeft B S none_ (K.ipc m).2 w w'):=fun w4 L=>by
  obtain ⟨⟨⟨S',h',o'⟩,F'⟩,_⟩:=L
  have R2:Rel (only t) (M.upd t (askP m)) (K.asks t m):=(R.asks hu s1 m (by omega)).acts (fun i=>by unfold Wi none_ only;simp)
  have R3:=R2.parcel (i:=t) rfl (fun p=>{ p with pw:=m.words,item:=m.item,rt:=m.rt }) (fun p=>⟨p.tgt,m.words,m.item,m.rt,rfl⟩)
  have hp2:(M.upd t (askP m)).threads[t]? = some (askP m p):=get_modify _ hp
  have hp3:((M.upd t (askP m)).upd t (fun p=>{ p with pw:=m.words,item:=m.item,rt:=m.rt })).threads[t]? = some { askP m p with pw:=m.words,item:=m.item,rt:=m.rt }:=get_modify _ hp2
  refine (send_ipc B S' _ K n t u _ m w4 h' R3 ok hc hu s1 hm hd hp3 ⟨rfl,rfl,rfl⟩).mono ?_
  rintro e w' ⟨rfl,e0,L2⟩
  exact ⟨rfl,e0,KLeft.then o' F' L2⟩
 have tl:=(List.getElem?_eq_some_iff.1 hp).1
 have h6:=R.six ok.ft
 have lg:=(h.ltS (talk_state h hp m).2.2.2)
 have lx:B.x < w.heap.size:=by obtain ⟨cs,rv,sl,hq,_⟩:=h;exact hq.lx
 have hd':(m.dst == -1)=false:=by simp;omega
 have HL:=hid mi.2.2.2.2.2.1
 generalize M.threads.length=k at *
 have tl':(t:Int) < (k:Int):=by omega
 clear h R ok hc hb hm mi hu s1 hp hd hI hN
 go_enter Tryz.func47,Tryz.ntmps47
 go_wp2_with (first
  | (go_at_call 82;refine HC.out.mono ?_;rintro e w2 ⟨rfl,rfl⟩)
  | (go_at_call 84;refine HI.out.mono ?_;rintro e w1 ⟨rfl,H1⟩;have A1:=HA.out H1;have x1:=HX.out w1 A1.2.2.2;obtain ⟨c0,c1,c2,c3,c4,c5,c6⟩:=cells7 A1.2.2.1;have HT:=hid A1.1;have H2:=hid A1.2.1;clear H1 A1)
  | (with_reducible (show wpList _ _ _ (⟨_,.store 156 _ _,_,_,_,none⟩ :: _) _ _);go_must (refine wpList_store_mid rfl 156 _ _ rfl B.g (t*17+8) (talkV m) rfl rfl HT.out (by kernel_rfl) (talk_one m) ?_);go_must (clear HT c0 c1 c2 c3 c4 c5 c6 x1);go_must (generalize w1.setCells B.g (t*17+8) (talkV m).toList=w2 at H2 ⊢);go_must (obtain ⟨c0,c1,c2,c3,c4,c5,c6⟩:=cells7 H2.out.b))
  | (at_builtin;go_must (refine wpList_append_n _ rfl _ _ 39 rfl 2 i0 _ 1 8 Tryz.underlying39 hi0 hz0 hz1 hz2 rfl (by decide) (.slice none 0 0) [] rfl (Sl.nil _ _ _) sa m.words.length sc _ rfl (HW.out w2 H2.out) m.words.length (by simp) (by have:=HL.out;unfold maxLen;omega) (by have:=HL.out;omega) ?_);intro a3 d3 w3 G3;have P3:=HP.out H2.out G3;clear c0 c1 c2 c3 c4 c5 c6;obtain ⟨c0,c1,c2,c3,c4,c5,c6⟩:=cells7 P3.2.2;have HT:=hid P3.1;have H4:=hid P3.2.1;clear P3 G3)
  | (with_reducible (show wpList _ _ _ (⟨_,.store 154 _ _,_,_,_,none⟩ :: _) _ _);go_must (refine wpList_store_mid rfl 154 _ _ rfl B.g (t*17+9) (parV a3 m.words.length d3 m.item m.rt) rfl rfl HT.out (by kernel_rfl) (par_one _ _ _ _ _) ?_);go_must (clear HT c0 c1 c2 c3 c4 c5 c6);go_must (generalize w3.setCells B.g (t*17+9) (parV a3 m.words.length d3 m.item m.rt).toList=w4 at H4 ⊢);go_must (have c0:=(cells7 H4.out.b).1))
  | (go_at_call 86;refine (HR.out w4 H4.out).mono ?_;rintro e w5 ⟨rfl,H5⟩;replace H5:=hid H5))
 go_ret
 exact ⟨rfl,H5.out⟩
end
open Go.RowKit
theorem spent_no {K:RM}(h:K.cur < 0):K.spent=K:=by
 unfold RM.spent
 split
 ·rfl
 ·rw [if_pos h]
theorem tickTo_step {K:RM}{i:Nat}{x:Th}(hx:(K.tickTo i).threads[i]? = some x):K.tickTo (i+1)=if x.time=(K.tickTo i).clock then ((K.tickTo i).over i 6).toLast i else K.tickTo i:=by
 show (match (K.tickTo i).threads[i]? with | none=>_ | some x=>_)=_
 rw [hx]
theorem mTick_any (B:Bk) (S:Nat->Prop) (M:PM) (K:RM) (n:Nat) (w:World) (h:PRep w B S M) (R:Rel none_ M K) (ok:K.Ok n) (hn:n<=1000000000000000) :
  Calls Tryz.prog 44 #[.pointer (some ⟨B.x,0,none⟩)] w fun e w'=>e=.returned (.tuple #[])/\KLeft B S none_ K.tick w w':=by
 have c0:=ok.c0
 have c1:K.clock<=1000000000000000:=by have:=ok.c1;omega
 have hh:=h
 obtain ⟨cs,rv,sl,at_,hS⟩:=h
 have hc0:w.cell? ⟨B.x,0,none⟩=some (.int .u64 K.clock):=by rw [<- R.cl];exact (at_.cell 0).trans at_.c0
 have hf0:=at_.fro 0
 have A:=at_.setX (j:=0) (x:=.int .u64 (K.clock+1)) (M':={ M with clock:=M.clock+1 }) (by omega) (.inl rfl) rfl rfl rfl rfl rfl (by rw [Array.getElem?_setIfInBounds_self_of_lt (by have:=at_.size;omega),R.cl]) (fun i hi=>by rw [Array.getElem?_setIfInBounds_ne (by omega)];exact at_.fr i hi)
 have L1:PLeft B S { M with clock:=M.clock+1 } w (w.setCell ⟨B.x,0,none⟩ (.int .u64 (K.clock+1))):=PLeft.of (M:=M) hS rfl A.1 (fun k hk=>.inl hk) A.2 (fun k e=>.inl (.inl e))
 have R1:=R.clock
 have ft1:K.ticked.Fit:=ok.ft.nums _ _ _
 have nm1:K.ticked.Num (16*n+16):=ok.nm.same rfl rfl rfl
 obtain ⟨⟨S1,h1,o1⟩,F1⟩:=L1
 have C:=mCurrent_any B S1 none_ _ K.ticked _ h1 R1 ft1
 obtain ⟨ln,hln⟩:∃ ln,K.threads.length=ln:=⟨_,rfl⟩
 have sl1:K.ticked.spent.threads.length=ln:=by
  have:=(same_clo K.ticked).spent (b:=0) (Same.refl K.ticked)
  rw [this.len];exact hln
 have sl2:K.ticked.spent.clock=K.clock+1:=by
  have:=(same_clo K.ticked).spent (b:=0) (Same.refl K.ticked)
  rw [this.cl];rfl
 have Y:Hid (K.ticked.spent.threads.length=ln/\K.ticked.spent.clock=K.clock+1/\K.ticked.spent.Fit/\K.ticked.spent.Num (16*n+16+1)/\0<=K.clock/\K.clock<=1000000000000000/\K.threads.length=ln):=⟨sl1,sl2,ft1.spent,num_clo.spent nm1,c0,c1,hln⟩
 have z1:(w.setCell ⟨B.x,0,none⟩ (.int .u64 (K.clock+1))).heap.size=w.heap.size:=by simp [World.setCell]
 have mln:({ M with clock:=M.clock+1 }:PM).threads.length=ln:=by rw [R1.len];exact hln
 have h6:ln<=6:=by rw [<- hln];exact ok.ft.six
 by_cases hcur:K.ticked.cur < 0
 ·have ec:K.ticked.cur=-1:=by
   rcases curM_inv K.ticked.threads K.ticked.threads.length (Nat.le_refl _) with e | ⟨j,u,e,_⟩
   ·exact e
   ·have:K.ticked.cur=j:=e
    omega
  rw [ec] at C
  have es:=spent_no hcur
  have HC:=hid C
  have R1':Rel none_ ({ M with clock:=M.clock+1 }:PM) K.ticked.spent:=by rw [es];exact R1
  have ST:=hid (And.intro h1 (And.intro R1' (And.intro o1 F1)))
  have hc1:(w.setCell ⟨B.x,0,none⟩ (.int .u64 (K.clock+1))).cell? ⟨B.x,1,none⟩=some (.slice (some ⟨B.g,0,none⟩) ln B.c):=by rw [<- mln];exact (A.1.cell 1).trans A.1.c1
  clear at_ hS hh A R R1 ft1 nm1 h1 o1 F1 C ok sl1 sl2 hln mln R1' es ec hcur
  go_enter Tryz.func44,Tryz.ntmps44
  go_wp2_with (go_at_call 43;refine HC.out.mono ?_;rintro e w2 ⟨rfl,rfl⟩)
  go_loopw [23] (fun i wr=>∃ (k:Nat) (S':Nat->Prop) (M':PM),k<=ln/\i=.int .i64 k/\Hid (PRep wr B S' M'/\Rel none_ M' (K.ticked.spent.tickTo k)/\(∀ b,S' b->S b\/w.heap.size<=b)/\Fr S w wr)) (fun i _=>ln-(intOf i).toNat)
  case atStart=>exact ⟨0,S1,_,Nat.zero_le _,rfl,ST.out.1,ST.out.2.1,ST.out.2.2.1,ST.out.2.2.2⟩
  case round=>
   obtain ⟨k,S',M',hk,rfl,HI⟩:=hrel
   by_cases hlt:k < ln
   ·obtain ⟨t1,t2,_⟩:=tickTo_same K.ticked.spent k
    obtain ⟨u,hu⟩:∃ u,(K.ticked.spent.tickTo k).threads[k]? = some u:=⟨_,List.getElem?_eq_getElem (by rw [t1,Y.out.1];exact hlt)⟩
    obtain ⟨cs,rv,sl,at_,hS⟩:=HI.out.1
    obtain ⟨p,hp,RT⟩:=HI.out.2.1.get hu
    obtain ⟨s0,hs0⟩:=at_.sl_get hp
    have ml:M'.threads.length=ln:=by rw [HI.out.2.1.len,t1];exact Y.out.1
    have hc1:wr.cell? ⟨B.x,1,none⟩=some (.slice (some ⟨B.g,0,none⟩) ln B.c):=by rw [<- ml];exact (at_.cell 1).trans at_.c1
    have hcl:wr.cell? ⟨B.x,0,none⟩=some (.int .u64 (K.clock+1)):=by
     have e9:M'.clock=K.clock+1:=by rw [HI.out.2.1.cl,t2];exact Y.out.2.1
     rw [<- e9];exact (at_.cell 0).trans at_.c0
    have k15:=(at_.tcell hp hs0 15 (by omega)).trans (show (prow p s0)[15]? = some (.int .u64 p.time) from rfl)
    have ft2:=Y.out.2.2.1.tickTo k
    have nm2:=num_clo.tickTo Y.out.2.2.2.1 k
    have tm:p.time=K.clock+1↔u.time=K.clock+1:=by
     by_cases q1:u.st=1
     ·have:=RT.idle q1
      have z:=this.2 id
      rw [z,this.1]
      have:=Y.out.2.2.2.2.1
      omega
     ·exact (RT.time q1 id).at (by have:=Y.out.2.2.2.2.1;omega) (by have:=Y.out.2.2.2.2.2;omega)
    have es:=tickTo_step hu
    rw [t2,Y.out.2.1] at es
    have hlt':(k:Int) < (ln:Int):=by omega
    have h6:ln<=6:=by rw [<- ml];exact HI.out.2.1.six ft2
    by_cases q:u.time=K.clock+1
    ·have hst:u.st≠1:=fun e=>by have:=(RT.idle e).1;have:=Y.out.2.2.2.2.1;omega
     have d:(p.time == K.clock+1)=true:=by simpa using tm.2 q
     have HG:Hid (∀ w1,Below wr.heap.size wr w1->_):=fun w1 hb=>giveUp_rel B S' M' (K.ticked.spent.tickTo k) _ k u w1 (HI.out.1.below hb) HI.out.2.1 ft2 nm2 hu hst
     rw [if_pos q] at es
     have HES:=hid es
     generalize p.time=pt at *
     clear at_ hS hp RT hs0 ft2 nm2 hu hst tm es q ml t1 t2
     go_wp2
     go_quiet (fail)
     go_wp2_with (go_at_call 80;refine (HG.out _ (below_drewN (Below.refl _ _) _)).mono ?_;rintro e w3 ⟨rfl,L3⟩;replace L3:=hid L3)
     refine ⟨⟨k+1,L3.out.choose_spec.1.1.choose,L3.out.choose,by omega,by go_num,?_⟩,by simp [intOf];omega⟩
     have Z:=L3.out.choose_spec
     have ZZ:=Z.1.1.choose_spec
     refine ⟨ZZ.1,by rw [HES.out];exact Z.2,fun i hi=>?_,(HI.out.2.2.2.trans (Fr.of_below (below_drewN (Below.refl _ _) _) S)).next Z.1.2 HI.out.2.2.1⟩
     rcases ZZ.2 i hi with e | e
     ·exact HI.out.2.2.1 i e
     ·exact .inr (Nat.le_trans HI.out.2.2.2.size e)
    ·have d:(p.time == K.clock+1)=false:=by simp;exact fun e=>q (tm.1 e)
     rw [if_neg q] at es
     have HES:=hid es
     generalize p.time=pt at *
     clear at_ hS hp RT hs0 ft2 nm2 hu tm es q ml t1 t2
     go_wp2
     go_quiet (fail)
     go_wp2
     refine ⟨⟨k+1,S',M',by omega,by go_num,HI.out.1.below (below_drewN (Below.refl _ _) _),by rw [HES.out];exact HI.out.2.1,HI.out.2.2.1,HI.out.2.2.2.trans (Fr.of_below (below_drewN (Below.refl _ _) _) S)⟩,by simp [intOf];omega⟩
   ·have hkl:k=ln:=by omega
    subst hkl
    go_wp2
    go_end0
    refine ⟨rfl,M',⟨⟨S',HI.out.1,HI.out.2.2.1⟩,HI.out.2.2.2⟩,?_⟩
    have e9:K.tick=K.ticked.spent.tickTo k:=by unfold RM.tick;rw [show K.threads.length=k from Y.out.2.2.2.2.2.2]
    rw [e9]
    exact HI.out.2.1
 ·obtain ⟨t,u,et,hu,s1⟩:=K.ticked.cur_in hcur
  rw [et] at C
  have HC:=hid C
  have hne:((t:Int) != -1)=true:=by simp
  have HS:Hid (Calls Tryz.prog 79 #[.pointer (some ⟨B.x,0,none⟩),.int .i64 t] (w.setCell ⟨B.x,0,none⟩ (.int .u64 (K.clock+1))) fun e w3=>e=.returned (.tuple #[])/\∃ S3 M3,(PRep w3 B S3 M3/\Rel none_ M3 K.ticked.spent/\(∀ i,S3 i->S i\/w.heap.size<=i)/\Fr S w w3)/\w3.cell? ⟨B.x,1,none⟩=some (.slice (some ⟨B.g,0,none⟩) ln B.c)):=by
   refine (spend_rel B S1 _ K.ticked _ t u _ h1 R1 ft1 nm1 et hu s1).mono ?_
   rintro e w3 ⟨rfl,M3,⟨⟨S3,h3,o3⟩,F3⟩,R3⟩
   have ml3:M3.threads.length=ln:=by rw [R3.len];exact sl1
   refine ⟨rfl,S3,M3,⟨h3,R3,fun i hi=>(o3 i hi).elim (o1 i) (fun e=>.inr (by omega)),F1.next F3 o1⟩,?_⟩
   obtain ⟨cs3,rv3,sl3,at3,_⟩:=h3
   rw [<- ml3]
   exact (at3.cell 1).trans at3.c1
  clear at_ hS hh A R R1 ft1 nm1 h1 o1 F1 C ok sl1 sl2 hln mln hcur et hu s1
  go_enter Tryz.func44,Tryz.ntmps44
  go_wp2_with (first
   | (go_at_call 43;refine HC.out.mono ?_;rintro e w2 ⟨rfl,rfl⟩)
   | (go_at_call 79;refine HS.out.mono ?_;rintro e w3 ⟨rfl,S3,M3,L3,hc1⟩;replace L3:=hid L3))
  go_loopw [23] (fun i wr=>∃ (k:Nat) (S':Nat->Prop) (M':PM),k<=ln/\i=.int .i64 k/\Hid (PRep wr B S' M'/\Rel none_ M' (K.ticked.spent.tickTo k)/\(∀ b,S' b->S b\/w.heap.size<=b)/\Fr S w wr)) (fun i _=>ln-(intOf i).toNat)
  case atStart=>exact ⟨0,S3,M3,Nat.zero_le _,rfl,L3.out.1,L3.out.2.1,L3.out.2.2.1,L3.out.2.2.2⟩
  case round=>
   obtain ⟨k,S',M',hk,rfl,HI⟩:=hrel
   by_cases hlt:k < ln
   ·obtain ⟨t1,t2,_⟩:=tickTo_same K.ticked.spent k
    obtain ⟨u,hu⟩:∃ u,(K.ticked.spent.tickTo k).threads[k]? = some u:=⟨_,List.getElem?_eq_getElem (by rw [t1,Y.out.1];exact hlt)⟩
    obtain ⟨cs,rv,sl,at_,hS⟩:=HI.out.1
    obtain ⟨p,hp,RT⟩:=HI.out.2.1.get hu
    obtain ⟨s0,hs0⟩:=at_.sl_get hp
    have ml:M'.threads.length=ln:=by rw [HI.out.2.1.len,t1];exact Y.out.1
    have hc1:wr.cell? ⟨B.x,1,none⟩=some (.slice (some ⟨B.g,0,none⟩) ln B.c):=by rw [<- ml];exact (at_.cell 1).trans at_.c1
    have hcl:wr.cell? ⟨B.x,0,none⟩=some (.int .u64 (K.clock+1)):=by
     have e9:M'.clock=K.clock+1:=by rw [HI.out.2.1.cl,t2];exact Y.out.2.1
     rw [<- e9];exact (at_.cell 0).trans at_.c0
    have k15:=(at_.tcell hp hs0 15 (by omega)).trans (show (prow p s0)[15]? = some (.int .u64 p.time) from rfl)
    have ft2:=Y.out.2.2.1.tickTo k
    have nm2:=num_clo.tickTo Y.out.2.2.2.1 k
    have tm:p.time=K.clock+1↔u.time=K.clock+1:=by
     by_cases q1:u.st=1
     ·have:=RT.idle q1
      have z:=this.2 id
      rw [z,this.1]
      have:=Y.out.2.2.2.2.1
      omega
     ·exact (RT.time q1 id).at (by have:=Y.out.2.2.2.2.1;omega) (by have:=Y.out.2.2.2.2.2;omega)
    have es:=tickTo_step hu
    rw [t2,Y.out.2.1] at es
    have hlt':(k:Int) < (ln:Int):=by omega
    have h6:ln<=6:=by rw [<- ml];exact HI.out.2.1.six ft2
    by_cases q:u.time=K.clock+1
    ·have hst:u.st≠1:=fun e=>by have:=(RT.idle e).1;have:=Y.out.2.2.2.2.1;omega
     have d:(p.time == K.clock+1)=true:=by simpa using tm.2 q
     have HG:Hid (∀ w1,Below wr.heap.size wr w1->_):=fun w1 hb=>giveUp_rel B S' M' (K.ticked.spent.tickTo k) _ k u w1 (HI.out.1.below hb) HI.out.2.1 ft2 nm2 hu hst
     rw [if_pos q] at es
     have HES:=hid es
     generalize p.time=pt at *
     clear at_ hS hp RT hs0 ft2 nm2 hu hst tm es q ml t1 t2
     go_wp2
     go_quiet (fail)
     go_wp2_with (go_at_call 80;refine (HG.out _ (below_drewN (Below.refl _ _) _)).mono ?_;rintro e w3 ⟨rfl,L3⟩;replace L3:=hid L3)
     refine ⟨⟨k+1,L3.out.choose_spec.1.1.choose,L3.out.choose,by omega,by go_num,?_⟩,by simp [intOf];omega⟩
     have Z:=L3.out.choose_spec
     have ZZ:=Z.1.1.choose_spec
     refine ⟨ZZ.1,by rw [HES.out];exact Z.2,fun i hi=>?_,(HI.out.2.2.2.trans (Fr.of_below (below_drewN (Below.refl _ _) _) S)).next Z.1.2 HI.out.2.2.1⟩
     rcases ZZ.2 i hi with e | e
     ·exact HI.out.2.2.1 i e
     ·exact .inr (Nat.le_trans HI.out.2.2.2.size e)
    ·have d:(p.time == K.clock+1)=false:=by simp;exact fun e=>q (tm.1 e)
     rw [if_neg q] at es
     have HES:=hid es
     generalize p.time=pt at *
     clear at_ hS hp RT hs0 ft2 nm2 hu tm es q ml t1 t2
     go_wp2
     go_quiet (fail)
     go_wp2
     refine ⟨⟨k+1,S',M',by omega,by go_num,HI.out.1.below (below_drewN (Below.refl _ _) _),by rw [HES.out];exact HI.out.2.1,HI.out.2.2.1,HI.out.2.2.2.trans (Fr.of_below (below_drewN (Below.refl _ _) _) S)⟩,by simp [intOf];omega⟩
   ·have hkl:k=ln:=by omega
    subst hkl
    go_wp2
    go_end0
    refine ⟨rfl,M',⟨⟨S',HI.out.1,HI.out.2.2.1⟩,HI.out.2.2.2⟩,?_⟩
    have e9:K.tick=K.ticked.spent.tickTo k:=by unfold RM.tick;rw [show K.threads.length=k from Y.out.2.2.2.2.2.2]
    rw [e9]
    exact HI.out.2.1
theorem mYield_no (B:Bk) (S:Nat->Prop) (M:PM) (K:RM) (w:World) (h:PRep w B S M) (R:Rel none_ M K) (ft:K.Fit) (hc:K.cur < 0) :
  Calls Tryz.prog 46 #[.pointer (some ⟨B.x,0,none⟩)] w fun e w'=>e=.returned (.iface 166 (.agg #[.string ⟨#[89,105,101,108,100]⟩,.iface 160 (.agg #[.int .i64 2])]))/\w'=w:=by
 have HC:=hid (caller_no B S M K w h R ft hc)
 have hne:∀ w,(binOp .neq 114 (.iface 160 (.agg #[.int .i64 2])) .nilIface).run Tryz.prog w=.ok (.bool true) w:=fun w=>rfl
 clear h R ft hc
 go_enter Tryz.func46,Tryz.ntmps46
 go_wp2_with (go_at_call 82;refine HC.out.mono ?_;rintro e w2 ⟨rfl,rfl⟩)
 go_ret
 exact ⟨rfl,rfl⟩
theorem mYield_yes (B:Bk) (S:Nat->Prop) (M:PM) (K:RM) (b t:Nat) (w:World) (h:PRep w B S M) (R:Rel none_ M K) (ft:K.Fit) (nm:K.Num b) (hc:K.cur=t) :
  Calls Tryz.prog 46 #[.pointer (some ⟨B.x,0,none⟩)] w fun e w'=>e=.returned .nilIface/\KLeft B S none_ ((K.setLeft t 3).toLast t) w w':=by
 obtain ⟨j,u,e,hu,s1⟩:=K.cur_in (by omega)
 have ej:j=t:=by omega
 subst ej
 have HC:=hid (caller_yes B S M K j w h R ft hc)
 have HE:=hid (endTurn_rel B S M K b j u w h R ft nm hu s1)
 clear h R ft hc nm hu s1 e
 go_enter Tryz.func46,Tryz.ntmps46
 go_wp2_with (first
  | (go_at_call 82;refine HC.out.mono ?_;rintro e w2 ⟨rfl,rfl⟩)
  | (go_at_call 83;refine HE.out.mono ?_;rintro e w3 ⟨rfl,L⟩;replace L:=hid L))
 go_ret
 exact ⟨rfl,L.out⟩
open Go.RowKit
theorem KLeft.after {w w2 w3:World}{B:Bk}{S:Nat->Prop}{act:Nat->Prop}{K:RM}(h:KLeft B S act K w w2) (hb:Below w2.heap.size w2 w3):KLeft B S act K w w3:=by
 obtain ⟨M,⟨⟨S',h1,h2⟩,h3⟩,R⟩:=h
 exact ⟨M,⟨⟨S',h1.below hb,h2⟩,h3.trans (Fr.of_below hb S)⟩,R⟩
section
variable (B:Bk) (S:Nat->Prop) (K:RM) (n:Nat) (w:World)
theorem fCurrent_any (h:KR w B S K) (ok:K.Ok n) :
  Calls Tryz.prog 18 #[.pointer (some ⟨B.x,0,none⟩)] w fun e w'=>e=.returned (.int .i64 K.cur)/\Below w.heap.size w w':=by
 obtain ⟨M,h,R⟩:=h
 have C:=hid (mCurrent_any B S none_ M K w h R ok.ft)
 clear h R ok
 go_enter Tryz.func18,Tryz.ntmps18
 go_wp2_with (go_at_call 43;refine C.out.mono ?_;rintro e w2 ⟨rfl,rfl⟩)
 go_ret
 exact ⟨rfl,Below.refl _ _⟩
theorem fTick_any (h:KR w B S K) (ok:K.Ok n) (hn:n<=1000000000000000) :
  Calls Tryz.prog 19 #[.pointer (some ⟨B.x,0,none⟩)] w fun e w'=>e=.returned (.tuple #[])/\KLeft B S none_ K.tick w w':=by
 obtain ⟨M,h,R⟩:=h
 have C:=hid (mTick_any B S M K n w h R ok hn)
 clear h ok R
 go_enter Tryz.func19,Tryz.ntmps19
 go_wp2_with (go_at_call 44;refine C.out.mono ?_;rintro e w2 ⟨rfl,H2⟩;replace H2:=hid H2)
 go_end0
 exact ⟨rfl,H2.out⟩
theorem mYield_any (h:KR w B S K) (ok:K.Ok n) :
  Calls Tryz.prog 46 #[.pointer (some ⟨B.x,0,none⟩)] w fun e w'=>Ans K.yield.1 e w w'/\KLeft B S none_ K.yield.2 w w':=by
 by_cases hc:K.cur < 0
 ·have E:K.yield=(2,K):=by unfold RM.yield;rw [if_pos hc]
  obtain ⟨M,hp,R⟩:=h
  refine (mYield_no B S M K w hp R ok.ft hc).mono ?_
  rintro e w' ⟨rfl,rfl⟩
  rw [E]
  exact ⟨.inr ⟨_,rfl,Below.refl _ _⟩,⟨M,PLeft.refl hp,R⟩⟩
 ·obtain ⟨t,u,et,hu,s1⟩:=K.cur_in hc
  have E:K.yield=(0,(K.setLeft t 3).toLast t):=by unfold RM.yield;rw [if_neg hc,et,Int.toNat_natCast]
  obtain ⟨M,hp,R⟩:=h
  refine (mYield_yes B S M K _ t w hp R ok.ft ok.nm et).mono ?_
  rintro e w' ⟨rfl,H⟩
  rw [E]
  exact ⟨.inl ⟨rfl,rfl⟩,H⟩
theorem fLoad_any (pg ce:Int) (hg:Gl w) (h:KR w B S K) (ok:K.Ok n) :
  Calls Tryz.prog 41 #[.pointer (some ⟨B.x,0,none⟩),.int .i64 pg,.int .i64 ce] w fun e w'=>e=.returned (.tuple #[.int .i64 (K.load pg ce).1,.int .i64 (K.load pg ce).2])/\Below w.heap.size w w':=by
 have HC:=hid (mLoad_any B S K n w h ok pg ce)
 have HG:=hid hg
 clear h ok hg
 go_enter Tryz.func41,Tryz.ntmps41
 go_wp2_with fail
 refine HC.out.mono ?_
 rintro e w2 ⟨B2,⟨v,E,rfl⟩ | ⟨cd,st,E,rfl⟩⟩
 ·have HB:=hid B2
  have HE:=hid E
  clear E B2
  go_wp2_with (go_at_call 45;refine (number_nil _).mono ?_;rintro e w3 ⟨rfl,H3⟩;replace H3:=hid H3)
  go_ret2
  exact ⟨by rw [HE.out];rfl,HB.out.trans (H3.out.mono HB.out.size)⟩
 ·have HB:=hid B2
  have HE:=hid E
  clear E B2
  go_wp2_with (go_at_call 45;refine (number_met1 st cd _ (HG.out.below HB.out)).mono ?_;rintro e w3 ⟨rfl,H3⟩;replace H3:=hid H3)
  go_ret2
  exact ⟨by rw [HE.out];rfl,HB.out.trans (H3.out.mono HB.out.size)⟩
theorem fYield_any (hg:Gl w) (h:KR w B S K) (ok:K.Ok n) :
  Calls Tryz.prog 22 #[.pointer (some ⟨B.x,0,none⟩)] w fun e w'=>e=.returned (.int .i64 (K.yield.1))/\KLeft B S none_ (K.yield.2) w w':=by
 have HC:=hid (mYield_any B S K n w h ok)
 have HG:=hid hg
 clear h ok hg
 generalize K.yield.1=cd at *
 generalize K.yield.2=K2 at *
 go_enter Tryz.func22,Tryz.ntmps22
 go_wp2_with fail
 refine HC.out.mono ?_
 rintro e w2 ⟨⟨rfl,rfl⟩ | ⟨st,rfl,BB⟩,R2⟩
 ·have HB:=hid R2
  clear R2
  go_wp2_with (go_at_call 45;refine (number_nil _).mono ?_;rintro e w3 ⟨rfl,H3⟩;replace H3:=hid H3)
  go_ret
  exact ⟨rfl,HB.out.after H3.out⟩
 ·have G2:Gl w2:=HG.out.below BB
  have HB:=hid R2
  have HG2:=hid G2
  clear R2 G2 BB
  go_wp2_with (go_at_call 45;refine (number_met1 st cd _ HG2.out).mono ?_;rintro e w3 ⟨rfl,H3⟩;replace H3:=hid H3)
  go_ret
  exact ⟨rfl,HB.out.after H3.out⟩
theorem fStore_any (pg ce v:Int) (hg:Gl w) (h:KR w B S K) (ok:K.Ok n) :
  Calls Tryz.prog 39 #[.pointer (some ⟨B.x,0,none⟩),.int .i64 pg,.int .i64 ce,.int .i64 v] w fun e w'=>e=.returned (.int .i64 ((K.touch pg ce 2).2))/\KLeft B S none_ (K.stored pg ce v) w w':=by
 have HC:=hid (mStore_any B S K n w h ok pg ce v)
 have HG:=hid hg
 clear h ok hg
 generalize (K.touch pg ce 2).2=cd at *
 generalize K.stored pg ce v=K2 at *
 go_enter Tryz.func39,Tryz.ntmps39
 go_wp2_with fail
 refine HC.out.mono ?_
 rintro e w2 ⟨⟨rfl,rfl⟩ | ⟨st,rfl,BB⟩,R2⟩
 ·have HB:=hid R2
  clear R2
  go_wp2_with (go_at_call 45;refine (number_nil _).mono ?_;rintro e w3 ⟨rfl,H3⟩;replace H3:=hid H3)
  go_ret
  exact ⟨rfl,HB.out.after H3.out⟩
 ·have G2:Gl w2:=HG.out.below BB
  have HB:=hid R2
  have HG2:=hid G2
  clear R2 G2 BB
  go_wp2_with (go_at_call 45;refine (number_met1 st cd _ HG2.out).mono ?_;rintro e w3 ⟨rfl,H3⟩;replace H3:=hid H3)
  go_ret
  exact ⟨rfl,HB.out.after H3.out⟩
theorem fUnmap_any (pg:Int) (own:Bool) (hg:Gl w) (h:KR w B S K) (ok:K.Ok n) :
  Calls Tryz.prog 30 #[.pointer (some ⟨B.x,0,none⟩),.int .i64 pg,.bool own] w fun e w'=>e=.returned (.int .i64 ((K.unmap pg own).1))/\KLeft B S none_ ((K.unmap pg own).2) w w':=by
 have HC:=hid (mUnmap_any B S K n w h ok pg own)
 have HG:=hid hg
 clear h ok hg
 generalize (K.unmap pg own).1=cd at *
 generalize (K.unmap pg own).2=K2 at *
 go_enter Tryz.func30,Tryz.ntmps30
 go_wp2_with fail
 refine HC.out.mono ?_
 rintro e w2 ⟨⟨rfl,rfl⟩ | ⟨st,rfl,BB⟩,R2⟩
 ·have HB:=hid R2
  clear R2
  go_wp2_with (go_at_call 45;refine (number_nil _).mono ?_;rintro e w3 ⟨rfl,H3⟩;replace H3:=hid H3)
  go_ret
  exact ⟨rfl,HB.out.after H3.out⟩
 ·have G2:Gl w2:=HG.out.below BB
  have HB:=hid R2
  have HG2:=hid G2
  clear R2 G2 BB
  go_wp2_with (go_at_call 45;refine (number_met1 st cd _ HG2.out).mono ?_;rintro e w3 ⟨rfl,H3⟩;replace H3:=hid H3)
  go_ret
  exact ⟨rfl,HB.out.after H3.out⟩
theorem fDerive_any (a b r:Int) (hg:Gl w) (h:KR w B S K) (ok:K.Ok n) :
  Calls Tryz.prog 48 #[.pointer (some ⟨B.x,0,none⟩),.int .i64 a,.int .i64 b,.int .i64 r] w fun e w'=>e=.returned (.int .i64 ((K.derive a b r).1))/\KLeft B S none_ ((K.derive a b r).2) w w':=by
 have HC:=hid (mDerive_any B S K n w h ok a b r)
 have HG:=hid hg
 clear h ok hg
 generalize (K.derive a b r).1=cd at *
 generalize (K.derive a b r).2=K2 at *
 go_enter Tryz.func48,Tryz.ntmps48
 go_wp2_with fail
 refine HC.out.mono ?_
 rintro e w2 ⟨⟨rfl,rfl⟩ | ⟨st,rfl,BB⟩,R2⟩
 ·have HB:=hid R2
  clear R2
  go_wp2_with (go_at_call 45;refine (number_nil _).mono ?_;rintro e w3 ⟨rfl,H3⟩;replace H3:=hid H3)
  go_ret
  exact ⟨rfl,HB.out.after H3.out⟩
 ·have G2:Gl w2:=HG.out.below BB
  have HB:=hid R2
  have HG2:=hid G2
  clear R2 G2 BB
  go_wp2_with (go_at_call 45;refine (number_met1 st cd _ HG2.out).mono ?_;rintro e w3 ⟨rfl,H3⟩;replace H3:=hid H3)
  go_ret
  exact ⟨rfl,HB.out.after H3.out⟩
theorem fDrop_any (a:Int) (hg:Gl w) (h:KR w B S K) (ok:K.Ok n) :
  Calls Tryz.prog 49 #[.pointer (some ⟨B.x,0,none⟩),.int .i64 a] w fun e w'=>e=.returned (.int .i64 ((K.drop a).1))/\KLeft B S none_ ((K.drop a).2) w w':=by
 have HC:=hid (mDrop_any B S K n w h ok a)
 have HG:=hid hg
 clear h ok hg
 generalize (K.drop a).1=cd at *
 generalize (K.drop a).2=K2 at *
 go_enter Tryz.func49,Tryz.ntmps49
 go_wp2_with fail
 refine HC.out.mono ?_
 rintro e w2 ⟨⟨rfl,rfl⟩ | ⟨st,rfl,BB⟩,R2⟩
 ·have HB:=hid R2
  clear R2
  go_wp2_with (go_at_call 45;refine (number_nil _).mono ?_;rintro e w3 ⟨rfl,H3⟩;replace H3:=hid H3)
  go_ret
  exact ⟨rfl,HB.out.after H3.out⟩
 ·have G2:Gl w2:=HG.out.below BB
  have HB:=hid R2
  have HG2:=hid G2
  clear R2 G2 BB
  go_wp2_with (go_at_call 45;refine (number_met1 st cd _ HG2.out).mono ?_;rintro e w3 ⟨rfl,H3⟩;replace H3:=hid H3)
  go_ret
  exact ⟨rfl,HB.out.after H3.out⟩
end
open Go.RowKit
section
variable (IM:MsgOk) (B:Bk) (S:Nat->Prop) (K:RM) (n:Nat) (m:Ms) (sa:Option Addr) (sc:Nat) (w:World)
include IM in
theorem mIpc_any (h:KR w B S K) (ok:K.Ok n) (hI:Inl w 1 (.slice sa m.words.length sc) (m.words.map lnI)) (hN:∀ k,inBlock (.slice sa m.words.length sc)=some k->¬ S k) :
  Calls Tryz.prog 47 #[.pointer (some ⟨B.x,0,none⟩),.agg (mC m sa sc)] w fun e w'=>∃ cd,cd=(K.ipc m).1/\((cd=0/\e=.returned .nilIface)\/(∃ st,e=.returned (.iface 166 (.agg #[.string st,.iface 160 (.agg #[.int .i64 cd])]))/\Below w.heap.size w w'))/\KLeft B S none_ (K.ipc m).2 w w':=by
 by_cases hc:K.cur < 0
 ·have E:K.ipc m=(2,K):=by unfold RM.ipc;rw [if_pos hc]
  refine (mIpc_no B S K n m sa sc w h ok hc).mono ?_
  rintro e w' (⟨h0,_⟩ | ⟨st,rfl,b⟩)
  ·omega
  ·rw [E];exact ⟨2,rfl,.inr ⟨st,rfl,b⟩,h.left b⟩
 ·obtain ⟨t,u,hc',hu,s1⟩:=K.cur_in hc
  have hk:=h
  obtain ⟨M,hr,R⟩:=h
  obtain ⟨p,hp,_⟩:=R.get hu
  cases hm:isMs K.threads.length m with
  | false=>
   have E:K.ipc m=(3,K):=by unfold RM.ipc;rw [if_neg hc,if_pos hm]
   refine (mIpc_arg IM B S M K n t m sa sc w hr R ok hc' hm).mono ?_
   rintro e w' (⟨h0,_⟩ | ⟨st,rfl,b⟩)
   ·omega
   ·rw [E];exact ⟨3,rfl,.inr ⟨st,rfl,b⟩,hk.left b⟩
  | true=>
   have mi:=isMs_in hm
   by_cases hd:m.dst < 0
   ·refine (mIpc_recv IM B S M K n t u p m sa sc w hr R ok hc' hu s1 hp hm (by omega)).mono ?_
    rintro e w' ⟨rfl,L⟩
    exact ⟨0,by rw [ipc_recv hc' hm hd],.inl ⟨rfl,rfl⟩,L⟩
   ·refine (mIpc_send IM B S M K n t u p m sa sc w hr R ok hc' hu s1 hp hm (by omega) hI hN).mono ?_
    rintro e w' ⟨rfl,e0,L⟩
    exact ⟨0,e0.symm,.inl ⟨rfl,rfl⟩,L⟩
include IM in
theorem fIpc_any (hg:Gl w) (h:KR w B S K) (ok:K.Ok n) (hI:Inl w 1 (.slice sa m.words.length sc) (m.words.map lnI)) (hN:∀ k,inBlock (.slice sa m.words.length sc)=some k->¬ S k) :
  Calls Tryz.prog 23 #[.pointer (some ⟨B.x,0,none⟩),msV m sa sc] w fun e w'=>e=.returned (.int .i64 (K.ipc m).1)/\KLeft B S none_ (K.ipc m).2 w w':=by
 have hb:Below w.heap.size w (w.alloc (.cells (mC m sa sc) 43)).drew:=((Below.refl _ w).alloc (Nat.le_refl _) _).drew
 have HC:=hid (mIpc_any IM B S K n m sa sc _ (h.below hb) ok (hI.kept (by omega) (Fr.of_below hb (fun _=>False)) (fun _ _ h=>h)) hN)
 have HG:=hid (And.intro (hg.below hb) (Fr.of_below hb S))
 have lx:B.x < w.heap.size:=by obtain ⟨M,⟨cs,rv,sl,hq,_⟩,_⟩:=h;exact hq.lx
 show Calls Tryz.prog 23 #[.pointer (some ⟨B.x,0,none⟩),.agg (mC m sa sc)] w _
 clear h ok hg hI hN hb
 have HD:Hid (Calls Tryz.prog 47 #[.pointer (some ⟨B.x,0,none⟩),.agg (mC m sa sc)] (w.alloc (.cells (mC m sa sc) 43)).drew fun e w2=>∃ v,e=.returned v/\Hid (Calls Tryz.prog 45 #[v] w2 fun e w3=>e=.returned (.int .i64 (K.ipc m).1)/\Below w2.heap.size w2 w3)/\Hid (KLeft B S none_ (K.ipc m).2 (w.alloc (.cells (mC m sa sc) 43)).drew w2)):=by
  refine HC.out.mono ?_
  rintro e w2 ⟨cd,ec,⟨e0,rfl⟩ | ⟨st,rfl,b⟩,L⟩
  ·refine ⟨_,rfl,?_,L⟩
   show Calls _ _ _ _ _
   rw [<- ec,e0];exact number_nil w2
  ·refine ⟨_,rfl,?_,L⟩
   show Calls _ _ _ _ _
   rw [<- ec];exact number_met1 st cd w2 (HG.out.1.below b)
 clear HC
 generalize (K.ipc m).1=cd0 at *
 generalize (K.ipc m).2=K2 at *
 go_enter Tryz.func23,Tryz.ntmps23
 go_wp2
 go_region_with (first
  | (go_at_call 47;refine HD.out.mono ?_;rintro e w2 ⟨v,rfl,N2,L2⟩)
  | (go_at_call 45;refine N2.out.mono ?_;rintro e w3 ⟨rfl,H3⟩;replace H3:=hid H3))
 all_goals
  try go_wp2
  go_ret
  exact ⟨rfl,KLeft.from HG.out.2 (L2.out.after H3.out)⟩
end
def ProgRep (w:World) (x:Nat) (S:Nat->Prop) (K:RM):Prop:=∃ B:Bk,B.x=x/\KR w B S K
theorem KLeft.left {B:Bk}{S:Nat->Prop}{K:RM}{w w':World}(h:KLeft B S none_ K w w'):Left ProgRep B.x S K w w':=by
 obtain ⟨M,⟨⟨S',h1,h2⟩,h3⟩,R⟩:=h
 exact ⟨⟨S',⟨B,rfl,M,h1,R⟩,h2⟩,h3⟩
theorem KR.ltS {w:World}{B:Bk}{S:Nat->Prop}{K:RM}(h:KR w B S K):∀ b,S b->b < w.heap.size:=by
 obtain ⟨M,h,_⟩:=h
 exact fun b hb=>h.ltS hb
theorem KR.kept {w w':World}{B:Bk}{S T:Nat->Prop}{K:RM}(h:KR w B S K) (hf:Fr T w w') (hn:∀ b,S b->¬ T b):KR w' B S K:=by
 obtain ⟨M,h,R⟩:=h
 exact ⟨M,h.kept hf hn,R⟩
open Go.RowKit
theorem MAt.move {w w':World}{x x':Nat}{cs:Array Value}{cl:Int×(Nat->Int)}{ts:List (Int×Int×Int×Int)}{n:Nat}{Q L:List (Int×Int×Int×Int)}{ln:Nat->List Nat}{vt:Value}{rv:Nat->Value}{vs:Value}
  (h:MAt w x 109 cs cl ts n Q L ln vt rv vs) (hf:Fr (fun _=>False) w w') (hb:w'.heap[x']? = some (.cells cs 111 (0,0))) (hx:w.heap.size<=x'):MAt w' x' 111 cs cl ts n Q L ln vt rv vs:=by
 have h':=h.kept hf (fun _ _ h=>h)
 refine ⟨hb,h.size,h.c0,h.c1,h.row,h.c6,h'.th,h'.li,h'.sp,fun e=>?_,fun r hr e=>?_,fun e=>?_,h.n4,h.n5,h.n6,h.fr⟩
 ·have:=h.th.lt e;omega
 ·have:=(h.li r hr).lt e;omega
 ·have:=h.sp.lt e;omega
def ptOf (u:Int×Int×Int×Int):PT:={ sp:=u.1,row:=u.2.1,left:=u.2.2.2,st:=1,code:=0,who:=-1,ws:=[],got:=-1,tgt:=0,pw:=[],item:=0,rt:=0,frm:=0,win:=0,wait:=0,time:=0,wl:=[] }
def pmNew (T:List (Int×Int)) (n:Nat) (Q L:List (Int×Int×Int×Int)) (ln:Nat->List Nat):PM:=⟨(born 0 T).map ptOf,ln,n,Q,L.map lfOf,fr0,0⟩
def nilSl (m:Nat):List (Sv×Sv×Value):=List.replicate m (Sv.nil,Sv.nil,.slice none 0 0)
theorem sp_gs (n gs:Nat) (Q L:List (Int×Int×Int×Int)):spRowsM n gs Q (L.map lfOf)=spRowsM n 0 Q (L.map lfOf):=by
 have h:∀ s i:Int,cell3 gs (findLf (L.map lfOf) s i)=cell3 0 (findLf (L.map lfOf) s i):=fun s i=>by
  rw [find_lfOf]
  cases findQ L s i <;> rfl
 unfold spRowsM
 congr 1
 funext s
 unfold spRowM pages
 simp only [h]
theorem prows_new (ts:List (Int×Int×Int×Int)):prows (ts.map ptOf) (nilSl ts.length)=ts.map thRow:=by
 apply List.ext_getElem?
 intro i
 unfold prows nilSl
 rw [List.getElem?_zipWith,List.getElem?_map,List.getElem?_map,List.getElem?_replicate]
 rcases hx:ts[i]? with _ | u
 ·simp
 ·have hi:=(List.getElem?_eq_some_iff.1 hx).1
  simp [hi]
  rfl
theorem lnV_new (rv:Nat->Value) (m j:Nat):lnV rv (nilSl m) j=if j < 4 then rv j else .slice none 0 0:=by
 unfold lnV nilSl
 split
 ·rfl
 ·rw [List.getElem?_replicate]
  split <;> rfl
theorem pt_get {ts:List (Int×Int×Int×Int)}{i:Nat}{p:PT}(h:(ts.map ptOf)[i]? = some p):∃ u,ts[i]? = some u/\p=ptOf u:=by
 rw [List.getElem?_map] at h
 rcases hx:ts[i]? with _ | u
 ·rw [hx] at h;simp at h
 ·rw [hx] at h
  simp at h
  exact ⟨u,rfl,h.symm⟩
theorem th_get {ts:List (Int×Int×Int×Int)}{i:Nat}{p:Th}(h:(ts.map thOf)[i]? = some p):∃ u,ts[i]? = some u/\p=thOf u:=by
 rw [List.getElem?_map] at h
 rcases hx:ts[i]? with _ | u
 ·rw [hx] at h;simp at h
 ·rw [hx] at h
  simp at h
  exact ⟨u,rfl,h.symm⟩
theorem line_new (T:List (Int×Int)) (n:Nat) (Q L:List (Int×Int×Int×Int)) (ln:Nat->List Nat) (j:Nat):(pmNew T n Q L ln).line j=if j < 4 then ln j else []:=by
 unfold PM.line
 split
 ·rfl
 ·rcases hx:(pmNew T n Q L ln).threads[j-4]? with _ | p
  ·rfl
  ·obtain ⟨u,_,rfl⟩:=pt_get (ts:=born 0 T) hx
   rfl
theorem rel_new {T:List (Int×Int)}{n:Nat}{Q L:List (Int×Int×Int×Int)}{ln:Nat->List Nat}(h:Lined (born 0 T) T.length ln):Rel none_ (pmNew T n Q L ln) (RK.new n T Q L).up:=by
 have hs:∀ (i:Nat) t,(RK.new n T Q L).up.threads[i]? = some t->∃ u,(born 0 T)[i]? = some u/\t=thOf u:=fun i t ht=>th_get (ts:=born 0 T) ht
 refine ⟨by simp [pmNew,RK.up,RK.new],fun i t p ht hp=>?_,fun r hr=>⟨fun t=>?_,?_⟩,fun r p hp=>?_,rfl,rfl,rfl,rfl,rfl⟩
 ·obtain ⟨u,hu,rfl⟩:=hs i t ht
  obtain ⟨v,hv,rfl⟩:=pt_get (ts:=born 0 T) hp
  rw [hu] at hv
  cases hv
  exact ⟨rfl,rfl,rfl,rfl,rfl,rfl,rfl,rfl,fun _=>⟨rfl,fun _=>rfl⟩,fun e=>by rcases e with e | e;exact absurd rfl e;exact e.elim,fun e=>absurd rfl e,fun e=>by simp [thOf] at e⟩
 ·show t∈ln r↔_
  rw [h.mem]
  constructor
  ·rintro ⟨u,hu,e⟩
   exact ⟨thOf u,by show ((born 0 T).map thOf)[t]? = _;rw [List.getElem?_map,hu];rfl,rfl,e⟩
  ·rintro ⟨v,hv,_,e⟩
   obtain ⟨u,hu,rfl⟩:=hs t v hv
   exact ⟨u,hu,e⟩
 ·refine (h.sorted r).imp (fun {a b} hab=>?_)
  have e:∀ a,ordM (RK.new n T Q L).up.threads a=ordOf (born 0 T) a:=fun a=>by
   show ordM ((born 0 T).map thOf) a=_
   unfold ordM ordOf
   rw [List.getElem?_map]
   cases (born 0 T)[a]? <;> rfl
  rw [e,e];exact hab
 ·obtain ⟨u,hu,rfl⟩:=pt_get (ts:=born 0 T) hp
  refine ⟨fun t=>⟨fun e=>by simp [ptOf] at e,fun ⟨v,hv,e,_⟩=>?_⟩,by simp [ptOf]⟩
  obtain ⟨u,_,rfl⟩:=hs t v hv
  simp [thOf] at e
theorem prog_new {w:World}{x:Nat}{cs:Array Value}{T:List (Int×Int)}{n:Nat}{Q L:List (Int×Int×Int×Int)}{ln:Nat->List Nat}{vt:Value}{rv:Nat->Value}{vs:Value}
  (h:MAt w x 111 cs c00 (born 0 T) n Q L ln vt rv vs) (hl:Lined (born 0 T) T.length ln) (n1:1<=n) (t1:1<=T.length):∃ S,ProgRep w x S (RK.new n T Q L).up/\∀ k,S k->MOwn x vt rv vs k:=by
 have hb:(born 0 T).length=T.length:=born_length 0 T
 obtain ⟨a,c,e1⟩:=h.th.slice
 rw [List.length_map] at e1
 subst e1
 obtain ⟨g,ea,_⟩:=h.th.is_some (by omega)
 subst ea
 obtain ⟨a2,c2,e2⟩:=h.sp.slice
 have hlen:(spRows n Q L).length=n:=by simp [spRows,spRowsM]
 rw [hlen] at e2
 subst e2
 obtain ⟨gs,ea2,_⟩:=h.sp.is_some (by omega)
 subst ea2
 have tl:(pmNew T n Q L ln).threads.length=(born 0 T).length:=by simp [pmNew]
 have o4:∀ j k,(if j < 4 then rv j else Value.slice none 0 0).ownBlock=some k->j < 4/\(rv j).ownBlock=some k:=fun j k e=>by
  by_cases hj:j < 4
  ·rw [if_pos hj] at e;exact ⟨hj,e⟩
  ·rw [if_neg hj] at e;simp [Value.ownBlock] at e
 have en:(n:Int).toNat=n:=by simp
 have P:PmAt w ⟨x,111,g,c,gs,c2⟩ (pmNew T n Q L ln) cs rv (nilSl (born 0 T).length):=by
  refine ⟨h.blk,h.size,h.c0,?_,h.row,?_,h.fr,by simp [nilSl,tl],?_,?_,fun j hj=>?_,fun i p s hp hs=>?_,⟨fun e=>h.n1 (by show some g=some x;rw [show g=x from e]),fun e=>h.n3 (by show some gs=some x;rw [show gs=x from e]),fun e=>h.n6 g rfl (by show some gs=some g;rw [show g=gs from e])⟩,fun j hj k hk=>?_,fun i j hi hj hij k hk=>?_⟩
  ·rw [tl];exact h.c1
  ·exact h.c6.trans (by show _=some (Value.slice _ (n:Int).toNat _);rw [en])
  ·show Sl w 158 17 _ (prows ((born 0 T).map ptOf) _)
   rw [prows_new,tl];exact h.th
  ·show Sl w 232 30 (.slice _ (n:Int).toNat _) (spRowsM (n:Int).toNat gs Q (L.map lfOf))
   rw [sp_gs,en];exact h.sp
  ·rw [lnV_new,line_new]
   by_cases e:j < 4
   ·rw [if_pos e,if_pos e];exact h.li j e
   ·rw [if_neg e,if_neg e];exact Sl.nil _ _ _
  ·obtain ⟨u,_,rfl⟩:=pt_get (ts:=born 0 T) hp
   have es:s=(Sv.nil,Sv.nil,.slice none 0 0):=by
    unfold nilSl at hs
    rw [List.getElem?_replicate] at hs
    split at hs
    ·cases hs;rfl
    ·cases hs
   rw [es]
   exact ⟨PWd.nil _ _ _ _ _,PWd.nil _ _ _ _ _⟩
  ·rw [lnV_new] at hk
   obtain ⟨j4,hk⟩:=o4 j k hk
   exact ⟨fun e=>h.n2 j j4 (by rw [<- show k=x from e];exact hk),fun e=>(h.n4 j j4 k hk).1 (by show some g=some k;rw [show k=g from e]),fun e=>(h.n4 j j4 k hk).2 (by show some gs=some k;rw [show k=gs from e])⟩
  ·rw [lnV_new] at hk ⊢
   obtain ⟨i4,hk⟩:=o4 i k hk
   intro e
   obtain ⟨j4,e⟩:=o4 j k e
   exact h.n5 i j i4 j4 hij k hk e
 refine ⟨POwn ⟨x,111,g,c,gs,c2⟩ (pmNew T n Q L ln).threads.length rv (nilSl (born 0 T).length),⟨⟨x,111,g,c,gs,c2⟩,rfl,pmNew T n Q L ln,⟨cs,rv,_,P,fun _=>Iff.rfl⟩,rel_new hl⟩,fun k hk=>?_⟩
 rcases hk with (e | e | e | ⟨j,hj,e⟩) | ⟨i,s,hs,e⟩
 ·exact .inl e
 ·exact .inr (.inl (by show some g=some k;rw [show k=g from e]))
 ·exact .inr (.inr (.inr (by show some gs=some k;rw [show k=gs from e])))
 ·rw [lnV_new] at e
  obtain ⟨j4,e⟩:=o4 j k e
  exact .inr (.inr (.inl ⟨j,j4,e⟩))
 ·have es:s=(Sv.nil,Sv.nil,.slice none 0 0):=by
   unfold nilSl at hs
   rw [List.getElem?_replicate] at hs
   split at hs
   ·cases hs;rfl
   ·cases hs
  rw [es] at e
  rcases e with e | e <;> simp [inBlock,Sv.nil] at e
theorem fNew_yes (sp:Int) (vT vP vL:Value) (T:List (Int×Int)) (Q L:List (Int×Int×Int×Int)) (w:World) (iT:Inl w 2 vT (T.map tRow)) (iP:Inl w 4 vP (Q.map qRow)) (iL:Inl w 4 vL (L.map qRow)) (hf:Fits sp T Q L) :
  Calls Tryz.prog 42 #[.agg #[.int .i64 sp,vT,vP,vL]] w fun e w'=>∃ x S,e=.returned (.tuple #[.pointer (some ⟨x,0,none⟩),.int .i64 0])/\ProgRep w' x S (RK.new sp T Q L).up/\Below w.heap.size w w'/\∀ b,S b->w.heap.size<=b:=by
 obtain ⟨n,rfl⟩:=Int.eq_ofNat_of_zero_le (show 0<=sp by have:=hf.1;omega)
 obtain ⟨aT,cT,eT⟩:=iT.slice
 obtain ⟨aP,cP,eP⟩:=iP.slice
 obtain ⟨aL,cL,eL⟩:=iL.slice
 rw [List.length_map] at eT eP eL
 subst eT eP eL
 have B:=mNew_yes n aT aP aL T.length Q.length L.length cT cP cL T Q L (w.alloc (.cells #[.int .i64 n,.slice aT T.length cT,.slice aP Q.length cP,.slice aL L.length cL] 32)) (iT.alloc (by omega) _) (iP.alloc (by omega) _) (iL.alloc (by omega) _) rfl rfl rfl hf
 have HB:=hid B
 have HF:1<=n/\1<=T.length:=⟨by have:=hf.1;omega,by have:=hf.2.1;omega⟩
 clear B hf iT iP iL
 generalize hmT:T.length=mT at *
 generalize hmP:Q.length=mP at *
 generalize hmL:L.length=mL at *
 have HM:=hid (And.intro hmT (And.intro hmP (And.intro hmL HF)))
 clear hmT hmP hmL HF
 go_enter Tryz.func42,Tryz.ntmps42
 go_wp2_with fail
 refine HB.out.mono ?_
 rintro e w2 ⟨x,ln,vt,rv,vs,rfl,M,Ln,Bw,Ow⟩
 obtain ⟨a1,n1,c1,e1⟩:∃ a n c,vt=.slice a n c:=by obtain ⟨a,c,h⟩:=M.th.slice;exact ⟨_,_,_,h⟩
 obtain ⟨b0,k0,d0,e20⟩:∃ a n c,rv 0=.slice a n c:=by obtain ⟨a,c,h⟩:=(M.li 0 (by omega)).slice;exact ⟨_,_,_,h⟩
 obtain ⟨b1,k1,d1,e21⟩:∃ a n c,rv 1=.slice a n c:=by obtain ⟨a,c,h⟩:=(M.li 1 (by omega)).slice;exact ⟨_,_,_,h⟩
 obtain ⟨b2,k2,d2,e22⟩:∃ a n c,rv 2=.slice a n c:=by obtain ⟨a,c,h⟩:=(M.li 2 (by omega)).slice;exact ⟨_,_,_,h⟩
 obtain ⟨b3,k3,d3,e23⟩:∃ a n c,rv 3=.slice a n c:=by obtain ⟨a,c,h⟩:=(M.li 3 (by omega)).slice;exact ⟨_,_,_,h⟩
 obtain ⟨a6,n6,c6,e6⟩:∃ a n c,vs=.slice a n c:=by obtain ⟨a,c,h⟩:=M.sp.slice;exact ⟨_,_,_,h⟩
 have em:mcells 0 vt (rv 0) (rv 1) (rv 2) (rv 3) vs=#[.int .u64 0,.slice a1 n1 c1,.slice b0 k0 d0,.slice b1 k1 d1,.slice b2 k2 d2,.slice b3 k3 d3,.slice a6 n6 c6,.int .i64 0,.int .i64 0,.int .i64 0,.int .i64 0,.int .i64 0,.int .i64 0,.int .i64 0,.int .i64 0,.int .i64 0,.int .i64 0,.int .i64 0,.int .i64 0,.int .i64 0,.int .i64 0,.int .i64 0,.int .i64 0,.int .i64 0,.int .i64 0,.int .i64 0,.int .i64 0,.int .i64 0,.int .i64 0,.int .i64 0,.int .i64 0,.int .i64 0,.int .i64 0,.int .i64 0,.int .i64 0,.int .i64 0,.int .i64 0,.int .i64 0,.int .i64 0]:=by rw [e1,e20,e21,e22,e23,e6];rfl
 rw [em] at M ⊢
 have R:(w2.alloc (.cells #[.int .u64 0,.slice a1 n1 c1,.slice b0 k0 d0,.slice b1 k1 d1,.slice b2 k2 d2,.slice b3 k3 d3,.slice a6 n6 c6,.int .i64 0,.int .i64 0,.int .i64 0,.int .i64 0,.int .i64 0,.int .i64 0,.int .i64 0,.int .i64 0,.int .i64 0,.int .i64 0,.int .i64 0,.int .i64 0,.int .i64 0,.int .i64 0,.int .i64 0,.int .i64 0,.int .i64 0,.int .i64 0,.int .i64 0,.int .i64 0,.int .i64 0,.int .i64 0,.int .i64 0,.int .i64 0,.int .i64 0,.int .i64 0,.int .i64 0,.int .i64 0,.int .i64 0,.int .i64 0,.int .i64 0,.int .i64 0] 109)).rangeAt w2.heap.size 0 [.int .u64 0,.slice a1 n1 c1,.slice b0 k0 d0,.slice b1 k1 d1,.slice b2 k2 d2,.slice b3 k3 d3,.slice a6 n6 c6,.int .i64 0,.int .i64 0,.int .i64 0,.int .i64 0,.int .i64 0,.int .i64 0,.int .i64 0,.int .i64 0,.int .i64 0,.int .i64 0,.int .i64 0,.int .i64 0,.int .i64 0,.int .i64 0,.int .i64 0,.int .i64 0,.int .i64 0,.int .i64 0,.int .i64 0,.int .i64 0,.int .i64 0,.int .i64 0,.int .i64 0,.int .i64 0,.int .i64 0,.int .i64 0,.int .i64 0,.int .i64 0,.int .i64 0,.int .i64 0,.int .i64 0,.int .i64 0]:=fun j v hv=>by
  rw [cell_of_row _ _ (0+j) _ _ _ (heap_alloc_new w2 _),Nat.zero_add,List.getElem?_toArray];exact hv
 have HH:=hid (And.intro M (And.intro Ln (And.intro Bw (And.intro Ow R))))
 clear M Ln Bw Ow R e1 e20 e21 e22 e23 e6 em
 go_wp2_with (first
  | (with_reducible (show wpList _ _ _ (⟨_,.load 109 _,_,_,_,none⟩ :: _) _ _);go_must (refine wpList_load_mid rfl 109 _ rfl w2.heap.size 0 rfl _ _ HH.out.2.2.2.2 Tryz.underlying109 rfl (by kernel_rfl) ?_))
  | (with_reducible (show wpList _ _ _ (⟨_,.store 109 _ _,_,_,_,none⟩ :: _) _ _);go_must (refine wpList_store_new rfl 109 _ _ rfl w2 _ #[.int .u64 0,.slice a1 n1 c1,.slice b0 k0 d0,.slice b1 k1 d1,.slice b2 k2 d2,.slice b3 k3 d3,.slice a6 n6 c6,.int .i64 0,.int .i64 0,.int .i64 0,.int .i64 0,.int .i64 0,.int .i64 0,.int .i64 0,.int .i64 0,.int .i64 0,.int .i64 0,.int .i64 0,.int .i64 0,.int .i64 0,.int .i64 0,.int .i64 0,.int .i64 0,.int .i64 0,.int .i64 0,.int .i64 0,.int .i64 0,.int .i64 0,.int .i64 0,.int .i64 0,.int .i64 0,.int .i64 0,.int .i64 0,.int .i64 0,.int .i64 0,.int .i64 0,.int .i64 0,.int .i64 0,.int .i64 0] 109 (by simp [Act.eval]) rfl (by kernel_rfl) rfl ?_ ?_);(simp [Value.oneCell'])))
 go_ret2
 have hsz:=HH.out.2.2.1.size
 simp only [size_alloc] at hsz
 have MV:=fun A=>HH.out.1.move (((Fr.refl (fun _=>False) w2).alloc A).alloc _) (heap_alloc2_new w2 A _) (by omega)
 obtain ⟨S,RP,OS⟩:=prog_new (L:=L) (Q:=Q) (MV _) (by have:=HM.out.1;have:=HH.out.2.1;rw [HM.out.1];exact this) HM.out.2.2.2.1 (by have:=HM.out.2.2.2.2;have:=HM.out.1;omega)
 refine ⟨w2.heap.size+1,S,rfl,RP,?_,fun b hb=>?_⟩
 ·exact ((((Below.refl _ w).alloc (Nat.le_refl _) _).trans (HH.out.2.2.1.mono (by simp))).alloc (by omega) _).alloc (by simp;omega) _
 ·rcases OS b hb with e | e | e | e
  ·omega
  ·have:=HH.out.2.2.2.1 b (.inr (.inl e));simp at this;omega
  ·have:=HH.out.2.2.2.1 b (.inr (.inr (.inl e)));simp at this;omega
  ·have:=HH.out.2.2.2.1 b (.inr (.inr (.inr e)));simp at this;omega
theorem fNew_no (sp:Int) (vT vP vL:Value) (T:List (Int×Int)) (Q L:List (Int×Int×Int×Int)) (w:World) (hg:Gl w) (iT:Inl w 2 vT (T.map tRow)) (iP:Inl w 4 vP (Q.map qRow)) (iL:Inl w 4 vL (L.map qRow)) (hf:¬ Fits sp T Q L) :
  Calls Tryz.prog 42 #[.agg #[.int .i64 sp,vT,vP,vL]] w fun e w'=>e=.returned (.tuple #[.pointer none,.int .i64 1])/\Below w.heap.size w w':=by
 obtain ⟨aT,cT,eT⟩:=iT.slice
 obtain ⟨aP,cP,eP⟩:=iP.slice
 obtain ⟨aL,cL,eL⟩:=iL.slice
 rw [List.length_map] at eT eP eL
 subst eT eP eL
 by_cases hbad:¬ (1<=sp/\sp<=3)\/¬ (1<=T.length/\T.length<=6)
 ·have B:=mNew_se sp aT aP aL T.length Q.length L.length cT cP cL T Q L (w.alloc (.cells #[.int .i64 sp,.slice aT T.length cT,.slice aP Q.length cP,.slice aL L.length cL] 32)) (iT.alloc (by omega) _) (iP.alloc (by omega) _) (iL.alloc (by omega) _) rfl rfl rfl hbad
  have HB:=hid B
  clear B hf iT iP iL hbad
  generalize T.length=mT at *
  generalize Q.length=mP at *
  generalize L.length=mL at *
  go_enter Tryz.func42,Tryz.ntmps42
  go_wp2_with fail
  refine HB.out.mono ?_
  rintro e w2 ⟨s,rfl,Bw⟩
  have hg2:Gl (w2.alloc (.cells #[.int .u64 0,.slice none 0 0,.slice none 0 0,.slice none 0 0,.slice none 0 0,.slice none 0 0,.slice none 0 0,.int .i64 0,.int .i64 0,.int .i64 0,.int .i64 0,.int .i64 0,.int .i64 0,.int .i64 0,.int .i64 0,.int .i64 0,.int .i64 0,.int .i64 0,.int .i64 0,.int .i64 0,.int .i64 0,.int .i64 0,.int .i64 0,.int .i64 0,.int .i64 0,.int .i64 0,.int .i64 0,.int .i64 0,.int .i64 0,.int .i64 0,.int .i64 0,.int .i64 0,.int .i64 0,.int .i64 0,.int .i64 0,.int .i64 0,.int .i64 0,.int .i64 0,.int .i64 0] 109)):=(((hg.alloc _).below Bw).alloc _)
  have HBw:=hid (And.intro Bw hg2)
  clear Bw hg2
  unfold mcells
  go_wp2_with (first
   | (go_at_call 45;refine (number_met1 s 1 _ HBw.out.2).mono ?_;rintro e w3 ⟨rfl,H3⟩;replace H3:=hid H3)
   | (with_reducible (show wpList _ _ _ (⟨_,.store 109 _ _,_,_,_,none⟩ :: _) _ _);go_must (refine wpList_store_new rfl 109 _ _ rfl w2 _ #[.int .u64 0,.slice none 0 0,.slice none 0 0,.slice none 0 0,.slice none 0 0,.slice none 0 0,.slice none 0 0,.int .i64 0,.int .i64 0,.int .i64 0,.int .i64 0,.int .i64 0,.int .i64 0,.int .i64 0,.int .i64 0,.int .i64 0,.int .i64 0,.int .i64 0,.int .i64 0,.int .i64 0,.int .i64 0,.int .i64 0,.int .i64 0,.int .i64 0,.int .i64 0,.int .i64 0,.int .i64 0,.int .i64 0,.int .i64 0,.int .i64 0,.int .i64 0,.int .i64 0,.int .i64 0,.int .i64 0,.int .i64 0,.int .i64 0,.int .i64 0,.int .i64 0,.int .i64 0] 109 (by simp [Act.eval]) rfl (by kernel_rfl) rfl ?_ ?_);(simp [Value.oneCell'])))
  go_ret2
  have hsz:=HBw.out.1.size
  simp only [size_alloc] at hsz
  exact ⟨rfl,((((Below.refl _ w).alloc (Nat.le_refl _) _).trans (HBw.out.1.mono (by simp))).alloc (by omega) _).trans (H3.out.mono (by simp;omega))⟩
 ·have h1:1<=sp/\sp<=3:=Classical.byContradiction (fun h=>hbad (.inl h))
  have h2:1<=T.length/\T.length<=6:=Classical.byContradiction (fun h=>hbad (.inr h))
  have B:=mNew_me sp aT aP aL T.length Q.length L.length cT cP cL T Q L (w.alloc (.cells #[.int .i64 sp,.slice aT T.length cT,.slice aP Q.length cP,.slice aL L.length cL] 32)) (iT.alloc (by omega) _) (iP.alloc (by omega) _) (iL.alloc (by omega) _) rfl rfl rfl h1 h2 hf
  have HB:=hid B
  clear B hf iT iP iL hbad h2
  generalize T.length=mT at *
  generalize Q.length=mP at *
  generalize L.length=mL at *
  go_enter Tryz.func42,Tryz.ntmps42
  go_wp2_with fail
  refine HB.out.mono ?_
  rintro e w2 ⟨s,⟨s2,rfl⟩,Bw⟩
  have hg2:Gl (w2.alloc (.cells #[.int .u64 0,.slice none 0 0,.slice none 0 0,.slice none 0 0,.slice none 0 0,.slice none 0 0,.slice none 0 0,.int .i64 0,.int .i64 0,.int .i64 0,.int .i64 0,.int .i64 0,.int .i64 0,.int .i64 0,.int .i64 0,.int .i64 0,.int .i64 0,.int .i64 0,.int .i64 0,.int .i64 0,.int .i64 0,.int .i64 0,.int .i64 0,.int .i64 0,.int .i64 0,.int .i64 0,.int .i64 0,.int .i64 0,.int .i64 0,.int .i64 0,.int .i64 0,.int .i64 0,.int .i64 0,.int .i64 0,.int .i64 0,.int .i64 0,.int .i64 0,.int .i64 0,.int .i64 0] 109)):=(((hg.alloc _).below Bw).alloc _)
  have HBw:=hid (And.intro Bw hg2)
  clear Bw hg2
  unfold mcells
  go_wp2_with (first
   | (go_at_call 45;refine (number_met2 s s2 1 _ HBw.out.2).mono ?_;rintro e w3 ⟨rfl,H3⟩;replace H3:=hid H3)
   | (with_reducible (show wpList _ _ _ (⟨_,.store 109 _ _,_,_,_,none⟩ :: _) _ _);go_must (refine wpList_store_new rfl 109 _ _ rfl w2 _ #[.int .u64 0,.slice none 0 0,.slice none 0 0,.slice none 0 0,.slice none 0 0,.slice none 0 0,.slice none 0 0,.int .i64 0,.int .i64 0,.int .i64 0,.int .i64 0,.int .i64 0,.int .i64 0,.int .i64 0,.int .i64 0,.int .i64 0,.int .i64 0,.int .i64 0,.int .i64 0,.int .i64 0,.int .i64 0,.int .i64 0,.int .i64 0,.int .i64 0,.int .i64 0,.int .i64 0,.int .i64 0,.int .i64 0,.int .i64 0,.int .i64 0,.int .i64 0,.int .i64 0,.int .i64 0,.int .i64 0,.int .i64 0,.int .i64 0,.int .i64 0,.int .i64 0,.int .i64 0] 109 (by simp [Act.eval]) rfl (by kernel_rfl) rfl ?_ ?_);(simp [Value.oneCell'])))
  go_ret2
  have hsz:=HBw.out.1.size
  simp only [size_alloc] at hsz
  exact ⟨rfl,((((Below.refl _ w).alloc (Nat.le_refl _) _).trans (HBw.out.1.mono (by simp))).alloc (by omega) _).trans (H3.out.mono (by simp;omega))⟩
end Go.Proofs.YteejjgbeknnmeaaGreatDoor
