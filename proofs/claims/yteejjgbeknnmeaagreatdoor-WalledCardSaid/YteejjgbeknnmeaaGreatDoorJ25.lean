import Derived.Test.YteejjgbeknnmeaaGreatDoorJ17
import Derived.Test.YteejjgbeknnmeaaGreatDoorJ24
import Derived.Test.YteejjgbeknnmeaaGreatDoorJ03
set_option maxRecDepth 100000
set_option maxHeartbeats 20000000
namespace Go.Proofs.YteejjgbeknnmeaaGreatDoor
open Go.RowKit
theorem KLeft.then {w w1 w2:World}{B:Bk}{S S1:Nat->Prop}{act:Nat->Prop}{K:RM}(o1:∀ b,S1 b->S b\/w.heap.size<=b) (F1:Fr S w w1) (h:KLeft B S1 act K w1 w2):KLeft B S act K w w2:=by
 obtain ⟨M,⟨⟨S',h',o'⟩,F'⟩,R⟩:=h
 exact ⟨M,⟨⟨S',h',fun i hi=>(o' i hi).elim (o1 i) (fun e=>.inr (Nat.le_trans F1.size e))⟩,F1.next F' o1⟩,R⟩
theorem giveUp_rel (B:Bk) (S:Nat->Prop) (M:PM) (K:RM) (b t:Nat) (u:Th) (w:World) (h:PRep w B S M) (R:Rel none_ M K) (ft:K.Fit) (nm:K.Num b) (hu:K.threads[t]? = some u) (s1:u.st≠1) :
  Calls Tryz.prog 80 #[.pointer (some ⟨B.x,0,none⟩),.int .i64 t] w fun e w'=>e=.returned (.tuple #[])/\KLeft B S none_ ((K.over t 6).toLast t) w w':=by
 obtain ⟨p,hp,RT⟩:=R.get hu
 have h6:=R.six ft
 have htl:=(List.getElem?_eq_some_iff.1 hp).1
 have hh:=h
 obtain ⟨cs,rv,sl,at_,hS⟩:=h
 obtain ⟨s0,hs0⟩:=at_.sl_get hp
 have hc1:=(at_.cell 1).trans at_.c1
 have k3:=(at_.tcell hp hs0 3 (by omega)).trans (show (prow p s0)[3]? = some (.int .i64 p.st) from rfl)
 have k8:=(at_.tcell hp hs0 8 (by omega)).trans (show (prow p s0)[8]? = some (.int .i64 p.tgt) from rfl)
 rw [RT.st] at k3
 have e0:Hid (∀ i,none_ i↔Wo (only t) t i):=fun i=>⟨fun h=>h.elim,fun h=>h.2 h.1⟩
 have e1:∀ i,only t i↔Wi none_ t i:=fun i=>⟨.inr,fun h=>h.elim (fun h=>h.elim) id⟩
 by_cases c2:u.st=2
 ·have sd:=RT.send c2 id
  obtain ⟨r,hr,hrl⟩:=sd.1
  obtain ⟨q,hq⟩:∃ q,M.threads[r]? = some q:=⟨_,List.getElem?_eq_getElem (by rw [R.len];exact hrl)⟩
  rw [sd.2.1,hr] at k8
  have hm:t∈q.wl:=((R.wl r q hq).mem t).2 ⟨u,hu,c2,hr,id⟩
  have R2:=(R.leaves hq hm).acts e1
  have HL:=hid (wlLeave_left B S M r t q w.drew hh.drew hq (R.wlL ft hq) (R.wlN hq))
  have HE:Hid (∀ S1 w1,PRep w1 B S1 (M.upd r (fun p=>{ p with wl:=q.wl.erase t }))->_):=fun S1 w1 h1=>end_rel B S1 (only t) _ K 0 b 6 t u false w1 h1 R2 ft nm hu (.inr rfl) ⟨fun e=>by simp at e,fun e=>absurd e s1⟩
  simp only [Bool.false_eq_true,if_false] at HE
  have hrm:r < M.threads.length:=by rw [R.len];exact hrl
  rw [c2] at k3
  generalize hmm:M.threads.length=m at *
  have ht':(t:Int) < (m:Int):=by omega
  have hr':(r:Int) < (m:Int):=by omega
  clear at_ hs0 hS hh R ft nm hu RT sd hq hm R2 hp hmm c2 s1
  go_enter Tryz.func80,Tryz.ntmps80
  go_wp2
  go_region_with (go_at_call 124;refine HL.out.mono ?_;rintro e w2 ⟨rfl,L⟩;replace L:=hid L)
  all_goals
   obtain ⟨⟨S2,h2,o2⟩,F2⟩:=L.out
   have E2:=hid (HE.out S2 w2 h2)
   have OF:=hid (And.intro o2 F2)
   clear h2 o2 F2 L
   go_wp2_with (go_at_call 125;refine E2.out.mono ?_;rintro e w3 ⟨rfl,L3⟩;replace L3:=hid L3)
   go_end0
   exact ⟨rfl,((L3.out.acts e0.out).then OF.out.1 OF.out.2).drewL⟩
 ·have c3:u.st=3:=by have:=(ft.th t u hu).st;omega
  have R2:=(R.enters hu c3).acts e1
  have HE:=hid (end_rel B S (only t) M K 0 b 6 t u false w hh R2 ft nm hu (.inr rfl) ⟨fun e=>by simp at e,fun e=>absurd e s1⟩)
  simp only [Bool.false_eq_true,if_false] at HE
  rw [c3] at k3
  generalize hmm:M.threads.length=m at *
  have ht':(t:Int) < (m:Int):=by omega
  clear at_ hs0 hS hh R ft nm hu RT R2 hp hmm c2 s1
  go_enter Tryz.func80,Tryz.ntmps80
  go_wp2_with (go_at_call 125;refine HE.out.mono ?_;rintro e w3 ⟨rfl,L3⟩;replace L3:=hid L3)
  go_end0
  exact ⟨rfl,L3.out.acts e0.out⟩
theorem endTurn_rel (B:Bk) (S:Nat->Prop) (M:PM) (K:RM) (b t:Nat) (u:Th) (w:World) (h:PRep w B S M) (R:Rel none_ M K) (ft:K.Fit) (nm:K.Num b) (hu:K.threads[t]? = some u) (s1:u.st=1) :
  Calls Tryz.prog 83 #[.pointer (some ⟨B.x,0,none⟩),.int .i64 t] w fun e w'=>e=.returned (.tuple #[])/\KLeft B S none_ ((K.setLeft t 3).toLast t) w w':=by
 obtain ⟨p,hp,RT⟩:=R.get hu
 obtain ⟨r,hr,h4,er⟩:=R.rowN ft hu hp
 refine (endTurn_any B S M t p r w h hp (R.six ft) hr h4 (R.lnL ft h4) (R.lnN h4)).mono ?_
 rintro e w' ⟨rfl,L⟩
 have hu2:(K.setLeft t 3).threads[t]? = some { u with left:=3 }:=get_modify _ hu
 have R2:=R.setLeft hu 3 (fun p=>{ p with left:=3 }) (fun _ _=>rfl)
 have ft2:(K.setLeft t 3).Fit:=ft.upd t _ (fun x hx=>by have f:=ft.th t x hx;exact ⟨f.s0,f.s1,f.r0,f.r1,by show (1:Int)<=3;omega,by show (3:Int)<=3;omega,f.mw,f.ws,f.win,f.st,f.ot⟩)
 have R3:=R2.toLast ft2 (num_clo.setLeft b K t 3 nm) hu2 s1
 have er2:({ u with left:=3 }:Th).row.toNat=r:=er
 rw [er2] at R3
 exact ⟨rfl,_,L,R3⟩
theorem spend_rel (B:Bk) (S:Nat->Prop) (M:PM) (K:RM) (b t:Nat) (u:Th) (w:World) (h:PRep w B S M) (R:Rel none_ M K) (ft:K.Fit) (nm:K.Num b) (hc:K.cur=t) (hu:K.threads[t]? = some u) (s1:u.st=1) :
  Calls Tryz.prog 79 #[.pointer (some ⟨B.x,0,none⟩),.int .i64 t] w fun e w'=>e=.returned (.tuple #[])/\KLeft B S none_ K.spent w w':=by
 obtain ⟨p,hp,RT⟩:=R.get hu
 obtain ⟨r,hr,h4,er⟩:=R.rowN ft hu hp
 have fu:=ft.th t u hu
 have es:K.spent=if u.left-1=0 then (K.setLeft t 3).toLast t else K.setLeft t (u.left-1):=by
  unfold RM.spent
  rw [hc,Int.toNat_natCast,hu]
  simp only
  rw [if_neg (by omega)]
 rw [es]
 by_cases e1:u.left=1
 ·rw [if_pos (by omega)]
  refine (spend_end B S M t p r w h hp (R.six ft) (by rw [RT.left];exact e1) hr h4 (R.lnL ft h4) (R.lnN h4)).mono ?_
  rintro e w' ⟨rfl,L⟩
  have hu2:(K.setLeft t 3).threads[t]? = some { u with left:=3 }:=get_modify _ hu
  have R2:=R.setLeft hu 3 (fun p=>{ p with left:=3 }) (fun _ _=>rfl)
  have ft2:(K.setLeft t 3).Fit:=ft.upd t _ (fun x hx=>by have f:=ft.th t x hx;exact ⟨f.s0,f.s1,f.r0,f.r1,by show (1:Int)<=3;omega,by show (3:Int)<=3;omega,f.mw,f.ws,f.win,f.st,f.ot⟩)
  have R3:=R2.toLast ft2 (num_clo.setLeft b K t 3 nm) hu2 s1
  have er2:({ u with left:=3 }:Th).row.toNat=r:=er
  rw [er2] at R3
  exact ⟨rfl,_,L,R3⟩
 ·have h1:=fu.l0
  have h2:=fu.l1
  rw [if_neg (by omega)]
  refine (spend_more B S M t p w h hp (R.six ft) (by rw [RT.left];omega) (by rw [RT.left];omega)).mono ?_
  rintro e w' ⟨rfl,L⟩
  refine ⟨rfl,_,L,R.setLeft hu (u.left-1) _ (fun q hq=>?_)⟩
  rw [hp] at hq
  cases hq
  rw [RT.left]
open Go.RowKit
abbrev mC (m:Ms) (sa:Option Addr) (sc:Nat):Array Value:=#[.int .i64 m.dst,.slice sa m.words.length sc,.int .i64 m.item,.int .i64 m.rt,.int .i64 m.frm,.int .i64 m.win,.int .i64 m.wait]
def MsgOk:Prop:=∀ (B:Bk) (S:Nat->Prop) (M:PM) (k:Nat) (m:Ms) (sa:Option Addr) (sc:Nat) (w:World),PRep w B S M->M.threads.length=k->k<=6 ->
  Calls Tryz.prog 84 #[.pointer (some ⟨B.x,0,none⟩),.agg (mC m sa sc)] w fun e w'=>e=.returned (.bool (isMs k m))/\Below w.heap.size w w'
def talkV (m:Ms):Array Value:=#[.int .i64 0,.slice none 0 0,.int .i64 0,.int .i64 0,.int .i64 m.frm,.int .i64 m.win,.int .i64 m.wait,.int .u64 0]
def parV (a:Option Addr) (n c:Nat) (i r:Int):Array Value:=#[.slice a n c,.int .i64 i,.int .i64 r]
theorem talk_one (m:Ms):(talkV m).all (·.oneCell')=true:=by simp [talkV,Value.oneCell']
theorem par_one (a:Option Addr) (n c:Nat) (i r:Int):(parV a n c i r).all (·.oneCell')=true:=by simp [parV,Value.oneCell']
theorem cells7 {w:World}{g:Nat}{m:Ms}{sa:Option Addr}{sc:Nat}(h:w.heap[g]? = some (.cells (mC m sa sc) 43 (0,0))) :
  w.cell? ⟨g,0,none⟩=some (.int .i64 m.dst)/\w.cell? ⟨g,1,none⟩=some (.slice sa m.words.length sc)/\w.cell? ⟨g,2,none⟩=some (.int .i64 m.item)/\w.cell? ⟨g,3,none⟩=some (.int .i64 m.rt)/\w.cell? ⟨g,4,none⟩=some (.int .i64 m.frm)/\w.cell? ⟨g,5,none⟩=some (.int .i64 m.win)/\w.cell? ⟨g,6,none⟩=some (.int .i64 m.wait):=
 ⟨(cell_of_row w g 0 _ _ _ h).trans rfl,(cell_of_row w g 1 _ _ _ h).trans rfl,(cell_of_row w g 2 _ _ _ h).trans rfl,(cell_of_row w g 3 _ _ _ h).trans rfl,(cell_of_row w g 4 _ _ _ h).trans rfl,(cell_of_row w g 5 _ _ _ h).trans rfl,(cell_of_row w g 6 _ _ _ h).trans rfl⟩
theorem there_part {w:World}{b o n k l:Nat}(h:w.there b o n) (hk:k+l<=n):w.there b (o+k) l:=fun j hj=>by
 have:=h (k+j) (by omega)
 rwa [<- Nat.add_assoc] at this
theorem PmAt.tthere {w:World}{B:Bk}{M:PM}{cs:Array Value}{rv:Nat->Value}{sl:List (Sv×Sv×Value)}(h:PmAt w B M cs rv sl){t:Nat}(ht:t < M.threads.length):w.there B.g (t*17) 17:=h.th.there t (by rw [prows_len h.ln];exact ht)
theorem talk_state {w:World}{B:Bk}{S:Nat->Prop}{M:PM}(h:PRep w B S M){t:Nat}{p:PT}(hp:M.threads[t]? = some p) (m:Ms) :
  w.there B.g (t*17+8) (talkV m).size/\PLeft B S (M.upd t (askP m)) w (w.setCells B.g (t*17+8) (talkV m).toList)/\Fr (fun q=>q=B.g) w (w.setCells B.g (t*17+8) (talkV m).toList)/\S B.g:=by
 obtain ⟨cs,rv,sl,h,hS⟩:=h
 obtain ⟨s,hs⟩:=h.sl_get hp
 have ht:=(List.getElem?_eq_some_iff.1 hp).1
 have P:=h.run hp hs 8 (talkV m).toList (askP m) (s.1,Sv.nil,s.2.2) (by simp [talkV]) rfl rfl rfl (h.wd t p s hp hs).1 (PWd.nil _ _ _ _ _)
 refine ⟨there_part (h.tthere ht) (by simp [talkV]),PLeft.of hS (by simp [PM.upd]) P.1 (fun k hk=>pown_set (s':=(s.1,Sv.nil,s.2.2)) hs rfl (fun k hk=>.inl (.inr ⟨t,s,hs,.inl hk⟩)) (fun k hk=>by simp [inBlock,Sv.nil] at hk) k hk) P.2 (fun k e=>.inl (.inr (.inl e))),P.2,(hS _).2 (.inl (.inr (.inl rfl)))⟩
theorem parcel_state {w w3:World}{B:Bk}{S:Nat->Prop}{M:PM}(h:PRep w B S M){t:Nat}{p:PT}(hp:M.threads[t]? = some p) (l:List Int) (i r:Int) (a:Option Addr) (c:Nat) (hl:l.length<=4) (G:Grew 2 1 (.slice none 0 0) w (.slice a l.length c) ([] ++ l.map lnI) w3) :
  w3.there B.g (t*17+9) (parV a l.length c i r).size/\PLeft B S (M.upd t (fun p=>{ p with pw:=l,item:=i,rt:=r })) w (w3.setCells B.g (t*17+9) (parV a l.length c i r).toList)/\Fr (fun q=>q=B.g) w (w3.setCells B.g (t*17+9) (parV a l.length c i r).toList)/\Fr (fun _=>False) w w3:=by
 obtain ⟨cs,rv,sl,h,hS⟩:=h
 obtain ⟨s,hs⟩:=h.sl_get hp
 have ht:=(List.getElem?_eq_some_iff.1 hp).1
 have F3:Fr (fun _=>False) w w3:=G.fr (Fr.refl _ w) (fun k hk=>by simp [Value.ownBlock] at hk)
 have h3:=h.kept F3 (fun _ _ h=>h)
 have G1:=G.sl
 rw [List.nil_append] at G1
 have hin:Inl w3 1 (.slice a l.length c) (l.map lnI):=G1.toInl (by unfold maxLen;omega)
 have hnew:∀ k,inBlock (.slice a l.length c)=some k->w.heap.size<=k/\k < w3.heap.size:=fun k hk=>by
  have hk':Value.ownBlock (.slice a l.length c)=some k:=by
   cases a with
   | none=>simp [inBlock] at hk
   | some x=>
    cases l with
    | nil=>simp [inBlock] at hk
    | cons y ys=>simpa [inBlock,Value.ownBlock] using hk
  refine ⟨?_,G1.lt hk'⟩
  rcases G.at_ k hk' with e | e
  ·exact e
  ·simp [Value.ownBlock] at e
 have P:=h3.run hp hs 9 (parV a l.length c i r).toList (fun p=>{ p with pw:=l,item:=i,rt:=r }) (s.1,⟨a,l.length,c⟩,s.2.2) (by simp [parV]) rfl rfl rfl (h3.wd t p s hp hs).1 ⟨hin,fun k hk=>⟨(hnew k hk).2,fun hw=>by have:=h.wlt hw;have:=(hnew k hk).1;omega⟩⟩
 have F:Fr (fun q=>q=B.g) w (w3.setCells B.g (t*17+9) (parV a l.length c i r).toList):=(F3.mono (fun _ _ h=>h.elim)).trans P.2
 refine ⟨there_part (h3.tthere ht) (by simp [parV]),PLeft.of hS (by simp [PM.upd]) P.1 (fun k hk=>pown_set (s':=(s.1,⟨a,l.length,c⟩,s.2.2)) hs rfl (fun k hk=>.inl (.inr ⟨t,s,hs,.inl hk⟩)) (fun k hk=>.inr (hnew k hk).1) k hk) F (fun k e=>.inl (.inr (.inl e))),F,F3⟩
theorem PRep.ltS {w:World}{B:Bk}{S:Nat->Prop}{M:PM}(h:PRep w B S M){k:Nat}(hk:S k):k < w.heap.size:=by
 obtain ⟨cs,rv,sl,h,hS⟩:=h
 exact h.lt ((hS k).1 hk)
section
variable (IM:MsgOk) (B:Bk) (S:Nat->Prop) (M:PM) (K:RM) (n t:Nat) (u:Th) (p:PT) (m:Ms) (sa:Option Addr) (sc:Nat) (w:World)
theorem mIpc_no (h:KR w B S K) (ok:K.Ok n) (hc:K.cur < 0) :
  Calls Tryz.prog 47 #[.pointer (some ⟨B.x,0,none⟩),.agg (mC m sa sc)] w fun e w'=>Ans 2 e w w':=by
 obtain ⟨M,h,R⟩:=h
 have hb:Below w.heap.size w (w.alloc (.cells (mC m sa sc) 43)):=(Below.refl _ w).alloc (Nat.le_refl _) _
 have HC:=hid (caller_no B S M K _ (h.below hb) R ok.ft hc)
 have HB:=hid hb
 have hne:=e2_ne
 clear h R ok hc hb
 go_enter Tryz.func47,Tryz.ntmps47
 go_wp2_with (go_at_call 82;refine HC.out.mono ?_;rintro e w2 ⟨rfl,rfl⟩)
 go_ret
 exact .inr ⟨_,rfl,HB.out⟩
include IM in
theorem mIpc_arg (h:PRep w B S M) (R:Rel none_ M K) (ok:K.Ok n) (hc:K.cur=t) (hm:isMs K.threads.length m=false) :
  Calls Tryz.prog 47 #[.pointer (some ⟨B.x,0,none⟩),.agg (mC m sa sc)] w fun e w'=>Ans 3 e w w':=by
 have hb:Below w.heap.size w (w.alloc (.cells (mC m sa sc) 43)):=(Below.refl _ w).alloc (Nat.le_refl _) _
 have HC:=hid (caller_yes B S M K t _ (h.below hb) R ok.ft hc)
 have HI:=hid (IM B S M _ m sa sc _ (h.below hb) R.len ok.ft.six)
 rw [hm] at HI
 have HB:=hid hb
 clear h R ok hc hb hm
 go_enter Tryz.func47,Tryz.ntmps47
 go_wp2_with (first
  | (go_at_call 82;refine HC.out.mono ?_;rintro e w2 ⟨rfl,rfl⟩)
  | (go_at_call 84;refine HI.out.mono ?_;rintro e w2 ⟨rfl,H2⟩;replace H2:=hid H2))
 go_ret
 exact .inr ⟨_,rfl,HB.out.trans (H2.out.mono HB.out.size)⟩
structure Asked (B:Bk) (S:Nat->Prop) (M:PM) (m:Ms) (t:Nat) (sa:Option Addr) (sc:Nat) (w w2:World):Prop where
 l:PLeft B S (M.upd t (askP m)) w w2
 b:w2.heap[w.heap.size]? = some (.cells (mC m sa sc) 43 (0,0))
theorem asked_of (h:PRep w B S M) (hp:M.threads[t]? = some p){w1:World}(hb:Below (w.alloc (.cells (mC m sa sc) 43)).heap.size (w.alloc (.cells (mC m sa sc) 43)) w1) :
  w1.there B.g (t*17+8) (talkV m).size/\Asked B S M m t sa sc w (w1.setCells B.g (t*17+8) (talkV m).toList)/\w1.heap[w.heap.size]? = some (.cells (mC m sa sc) 43 (0,0))/\Below w.heap.size w w1:=by
 have b1:Below w.heap.size w w1:=((Below.refl _ w).alloc (Nat.le_refl _) _).trans (hb.mono (by simp))
 have h1:=h.below b1
 have T:=talk_state h1 hp m
 have lg:B.g < w.heap.size:=h.ltS T.2.2.2
 have e1:w1.heap[w.heap.size]? = some (.cells (mC m sa sc) 43 (0,0)):=(hb.block _ (by simp)).trans (heap_alloc_new w _)
 refine ⟨T.1,⟨?_,(T.2.2.1.block _ (by have:=(Array.getElem?_eq_some_iff.1 e1).1;exact this) (by omega)).trans e1⟩,e1,b1⟩
 exact (PLeft.below h b1).next (fun S' h'=>by
  have T':=talk_state h' hp m
  exact T'.2.1)
include IM in
theorem mIpc_recv (h:PRep w B S M) (R:Rel none_ M K) (ok:K.Ok n) (hc:K.cur=t) (hu:K.threads[t]? = some u) (s1:u.st=1) (hp:M.threads[t]? = some p) (hm:isMs K.threads.length m=true) (hd:m.dst=-1) :
  Calls Tryz.prog 47 #[.pointer (some ⟨B.x,0,none⟩),.agg (mC m sa sc)] w fun e w'=>e=.returned .nilIface/\KLeft B S none_ (K.ipc m).2 w w':=by
 have hb:Below w.heap.size w (w.alloc (.cells (mC m sa sc) 43)):=(Below.refl _ w).alloc (Nat.le_refl _) _
 have HC:=hid (caller_yes B S M K t _ (h.below hb) R ok.ft hc)
 have HI:=hid (IM B S M _ m sa sc _ (h.below hb) R.len ok.ft.six)
 rw [hm] at HI
 have mi:=isMs_in hm
 have E:=hid (ipc_recv hc hm (by omega))
 have HA:Hid (∀ {w1:World},Below (w.alloc (.cells (mC m sa sc) 43)).heap.size (w.alloc (.cells (mC m sa sc) 43)) w1->_):=fun {w1} hb=>asked_of B S M t p m sa sc w h hp hb
 have HX:Hid (∀ w1:World,Below w.heap.size w w1->w1.cell? ⟨B.x,1,none⟩=some (.slice (some ⟨B.g,0,none⟩) M.threads.length B.c)):=fun w1 b=>by
  obtain ⟨cs,rv,sl,hq,_⟩:=h.below b
  exact (hq.cell 1).trans hq.c1
 have HR:Hid (∀ w2:World,PLeft B S (M.upd t (askP m)) w w2->Calls Tryz.prog 85 #[.pointer (some ⟨B.x,0,none⟩),.int .i64 t] w2 fun e w'=>e=.returned (.tuple #[])/\KLeft B S none_ ((K.asks t m).recv 7 t true) w w'):=fun w2 L=>by
  obtain ⟨⟨S',h',o'⟩,F'⟩:=L
  have hu2:(K.asks t m).threads[t]? = some { u with dst:=m.dst,mw:=m.words,item:=m.item,rt:=m.rt,frm:=m.frm,win:=m.win,wait:=m.wait }:=get_modify _ hu
  have R2:Rel (only t) (M.upd t (askP m)) (K.asks t m):=(R.asks hu s1 m (by omega)).acts (fun i=>by unfold Wi none_ only;simp)
  refine (recv_rel 7 B S' _ (K.asks t m) _ t _ true w2 h' R2 (ok.ft.asks t m mi.2.2.2.2.2.1 (by omega)) (num_clo.asks _ K t m ok.nm) hu2 (by simp [s1]) ?_).mono ?_
  ·have:=sending_le (K.asks t m).threads
   have e9:(K.asks t m).threads.length=K.threads.length:=by simp [RM.asks,RM.upd]
   have:=ok.ft.six
   split <;> omega
  ·rintro e w' ⟨rfl,L2⟩
   exact ⟨rfl,KLeft.then o' F' L2⟩
 have tl:=(List.getElem?_eq_some_iff.1 hp).1
 have h6:=R.six ok.ft
 have lg:=(h.ltS (talk_state h hp m).2.2.2)
 have lx:B.x < w.heap.size:=by obtain ⟨cs,rv,sl,hq,_⟩:=h;exact hq.lx
 have hd':(m.dst == -1)=true:=by simp [hd]
 generalize M.threads.length=k at *
 have tl':(t:Int) < (k:Int):=by omega
 clear h R ok hc hb hm mi hu s1 hp hd
 go_enter Tryz.func47,Tryz.ntmps47
 go_wp2_with (first
  | (go_at_call 82;refine HC.out.mono ?_;rintro e w2 ⟨rfl,rfl⟩)
  | (go_at_call 84;refine HI.out.mono ?_;rintro e w1 ⟨rfl,H1⟩;have A1:=HA.out H1;have x1:=HX.out w1 A1.2.2.2;obtain ⟨c0,c1,c2,c3,c4,c5,c6⟩:=cells7 A1.2.2.1;have HT:=hid A1.1;have H2:=hid A1.2.1;clear H1 A1)
  | (with_reducible (show wpList _ _ _ (⟨_,.store 156 _ _,_,_,_,none⟩ :: _) _ _);go_must (refine wpList_store_mid rfl 156 _ _ rfl B.g (t*17+8) (talkV m) rfl rfl HT.out (by kernel_rfl) (talk_one m) ?_);go_must (clear HT c0 c1 c2 c3 c4 c5 c6 x1);go_must (generalize w1.setCells B.g (t*17+8) (talkV m).toList=w2 at H2 ⊢);go_must (have d0:=(cells7 H2.out.b).1))
  | (go_at_call 85;refine (HR.out w2 H2.out.l).mono ?_;rintro e w3 ⟨rfl,H3⟩;replace H3:=hid H3))
 go_ret
 rw [E.out]
 exact ⟨rfl,H3.out⟩
structure Packed (B:Bk) (S:Nat->Prop) (M:PM) (m:Ms) (t:Nat) (sa:Option Addr) (sc:Nat) (w w4:World):Prop where
 l:PLeft B S ((M.upd t (askP m)).upd t (fun p=>{ p with pw:=m.words,item:=m.item,rt:=m.rt })) w w4
 b:w4.heap[w.heap.size]? = some (.cells (mC m sa sc) 43 (0,0))
theorem packed_of (h:PRep w B S M) (hp:M.threads[t]? = some p) (hl:m.words.length<=4){w2 w3:World}(A:Asked B S M m t sa sc w w2){a:Option Addr}{c:Nat}(G:Grew 2 1 (.slice none 0 0) w2 (.slice a m.words.length c) ([] ++ m.words.map lnI) w3) :
  w3.there B.g (t*17+9) (parV a m.words.length c m.item m.rt).size/\Packed B S M m t sa sc w (w3.setCells B.g (t*17+9) (parV a m.words.length c m.item m.rt).toList)/\w3.heap[w.heap.size]? = some (.cells (mC m sa sc) 43 (0,0)):=by
 obtain ⟨⟨⟨S',h',o'⟩,F'⟩,b2⟩:=A
 have hp2:(M.upd t (askP m)).threads[t]? = some (askP m p):=get_modify _ hp
 have T:=parcel_state h' hp2 m.words m.item m.rt a c hl G
 have lg:B.g < w.heap.size:=h.ltS (talk_state h hp m).2.2.2
 have l2:w.heap.size < w2.heap.size:=(Array.getElem?_eq_some_iff.1 b2).1
 refine ⟨T.1,⟨?_,(T.2.2.1.block _ l2 (by omega)).trans b2⟩,(T.2.2.2.block _ l2 (fun h=>h)).trans b2⟩
 exact PLeft.next (M1:=M.upd t (askP m)) ⟨⟨S',h',o'⟩,F'⟩ (fun S2 h2=>(parcel_state h2 hp2 m.words m.item m.rt a c hl G).2.1)
include IM in
theorem mIpc_send (h:PRep w B S M) (R:Rel none_ M K) (ok:K.Ok n) (hc:K.cur=t) (hu:K.threads[t]? = some u) (s1:u.st=1) (hp:M.threads[t]? = some p) (hm:isMs K.threads.length m=true) (hd:0<=m.dst)
  (hI:Inl w 1 (.slice sa m.words.length sc) (m.words.map lnI)) (hN:∀ k,inBlock (.slice sa m.words.length sc)=some k->¬ S k) :
  Calls Tryz.prog 47 #[.pointer (some ⟨B.x,0,none⟩),.agg (mC m sa sc)] w fun e w'=>e=.returned .nilIface/\(K.ipc m).1=0/\KLeft B S none_ (K.ipc m).2 w w':=by
 have hb:Below w.heap.size w (w.alloc (.cells (mC m sa sc) 43)):=(Below.refl _ w).alloc (Nat.le_refl _) _
 have HC:=hid (caller_yes B S M K t _ (h.below hb) R ok.ft hc)
 have HI:=hid (IM B S M _ m sa sc _ (h.below hb) R.len ok.ft.six)
 rw [hm] at HI
 have mi:=isMs_in hm
 obtain ⟨i0,hi0,hz0,hz1,hz2⟩:=info_parts Tryz.infoN2
 have HA:Hid (∀ {w1:World},Below (w.alloc (.cells (mC m sa sc) 43)).heap.size (w.alloc (.cells (mC m sa sc) 43)) w1->_):=fun {w1} hb=>asked_of B S M t p m sa sc w h hp hb
 have HP:Hid (∀ {w2 w3:World}{a:Option Addr}{c:Nat},Asked B S M m t sa sc w w2->Grew 2 1 (.slice none 0 0) w2 (.slice a m.words.length c) ([] ++ m.words.map lnI) w3->_):=fun {w2 w3 a c} A G=>packed_of B S M t p m sa sc w h hp mi.2.2.2.2.2.1 A G
 have HX:Hid (∀ w1:World,Below w.heap.size w w1->w1.cell? ⟨B.x,1,none⟩=some (.slice (some ⟨B.g,0,none⟩) M.threads.length B.c)):=fun w1 b=>by
  obtain ⟨cs,rv,sl,hq,_⟩:=h.below b
  exact (hq.cell 1).trans hq.c1
 have HW:Hid (∀ w2:World,Asked B S M m t sa sc w w2->Inl w2 1 (.slice sa m.words.length sc) (m.words.map lnI)):=fun w2 A=>hI.kept (by omega) A.l.2 hN
 have HR:Hid (∀ w4:World,Packed B S M m t sa sc w w4->Calls Tryz.prog 86 #[.pointer (some ⟨B.x,0,none⟩),.int .i64 t,.int .i64 m.dst] w4 fun e w'=>e=.returned (.tuple #[])/\(K.ipc m).1=0/\KLeft B S none_ (K.ipc m).2 w w'):=fun w4 L=>by
  obtain ⟨⟨⟨S',h',o'⟩,F'⟩,_⟩:=L
  have R2:Rel (only t) (M.upd t (askP m)) (K.asks t m):=(R.asks hu s1 m (by omega)).acts (fun i=>by unfold Wi none_ only;simp)
  have R3:=R2.parcel (i:=t) rfl (fun p=>{ p with pw:=m.words,item:=m.item,rt:=m.rt }) (fun p=>⟨p.tgt,m.words,m.item,m.rt,rfl⟩)
  have hp2:(M.upd t (askP m)).threads[t]? = some (askP m p):=get_modify _ hp
  have hp3:((M.upd t (askP m)).upd t (fun p=>{ p with pw:=m.words,item:=m.item,rt:=m.rt })).threads[t]? = some { askP m p with pw:=m.words,item:=m.item,rt:=m.rt }:=get_modify _ hp2
  refine (send_ipc B S' _ K n t u _ m w4 h' R3 ok hc hu s1 hm hd hp3 ⟨rfl,rfl,rfl⟩).mono ?_
  rintro e w' ⟨rfl,e0,L2⟩
  exact ⟨rfl,e0,KLeft.then o' F' L2⟩
 have tl:=(List.getElem?_eq_some_iff.1 hp).1
 have h6:=R.six ok.ft
 have lg:=(h.ltS (talk_state h hp m).2.2.2)
 have lx:B.x < w.heap.size:=by obtain ⟨cs,rv,sl,hq,_⟩:=h;exact hq.lx
 have hd':(m.dst == -1)=false:=by simp;omega
 have HL:=hid mi.2.2.2.2.2.1
 generalize M.threads.length=k at *
 have tl':(t:Int) < (k:Int):=by omega
 clear h R ok hc hb hm mi hu s1 hp hd hI hN
 go_enter Tryz.func47,Tryz.ntmps47
 go_wp2_with (first
  | (go_at_call 82;refine HC.out.mono ?_;rintro e w2 ⟨rfl,rfl⟩)
  | (go_at_call 84;refine HI.out.mono ?_;rintro e w1 ⟨rfl,H1⟩;have A1:=HA.out H1;have x1:=HX.out w1 A1.2.2.2;obtain ⟨c0,c1,c2,c3,c4,c5,c6⟩:=cells7 A1.2.2.1;have HT:=hid A1.1;have H2:=hid A1.2.1;clear H1 A1)
  | (with_reducible (show wpList _ _ _ (⟨_,.store 156 _ _,_,_,_,none⟩ :: _) _ _);go_must (refine wpList_store_mid rfl 156 _ _ rfl B.g (t*17+8) (talkV m) rfl rfl HT.out (by kernel_rfl) (talk_one m) ?_);go_must (clear HT c0 c1 c2 c3 c4 c5 c6 x1);go_must (generalize w1.setCells B.g (t*17+8) (talkV m).toList=w2 at H2 ⊢);go_must (obtain ⟨c0,c1,c2,c3,c4,c5,c6⟩:=cells7 H2.out.b))
  | (at_builtin;go_must (refine wpList_append_n _ rfl _ _ 39 rfl 2 i0 _ 1 8 Tryz.underlying39 hi0 hz0 hz1 hz2 rfl (by decide) (.slice none 0 0) [] rfl (Sl.nil _ _ _) sa m.words.length sc _ rfl (HW.out w2 H2.out) m.words.length (by simp) (by have:=HL.out;unfold maxLen;omega) (by have:=HL.out;omega) ?_);intro a3 d3 w3 G3;have P3:=HP.out H2.out G3;clear c0 c1 c2 c3 c4 c5 c6;obtain ⟨c0,c1,c2,c3,c4,c5,c6⟩:=cells7 P3.2.2;have HT:=hid P3.1;have H4:=hid P3.2.1;clear P3 G3)
  | (with_reducible (show wpList _ _ _ (⟨_,.store 154 _ _,_,_,_,none⟩ :: _) _ _);go_must (refine wpList_store_mid rfl 154 _ _ rfl B.g (t*17+9) (parV a3 m.words.length d3 m.item m.rt) rfl rfl HT.out (by kernel_rfl) (par_one _ _ _ _ _) ?_);go_must (clear HT c0 c1 c2 c3 c4 c5 c6);go_must (generalize w3.setCells B.g (t*17+9) (parV a3 m.words.length d3 m.item m.rt).toList=w4 at H4 ⊢);go_must (have c0:=(cells7 H4.out.b).1))
  | (go_at_call 86;refine (HR.out w4 H4.out).mono ?_;rintro e w5 ⟨rfl,H5⟩;replace H5:=hid H5))
 go_ret
 exact ⟨rfl,H5.out⟩
end
open Go.RowKit
theorem spent_no {K:RM}(h:K.cur < 0):K.spent=K:=by
 unfold RM.spent
 split
 ·rfl
 ·rw [if_pos h]
theorem tickTo_step {K:RM}{i:Nat}{x:Th}(hx:(K.tickTo i).threads[i]? = some x):K.tickTo (i+1)=if x.time=(K.tickTo i).clock then ((K.tickTo i).over i 6).toLast i else K.tickTo i:=by
 show (match (K.tickTo i).threads[i]? with | none=>_ | some x=>_)=_
 rw [hx]
theorem mTick_any (B:Bk) (S:Nat->Prop) (M:PM) (K:RM) (n:Nat) (w:World) (h:PRep w B S M) (R:Rel none_ M K) (ok:K.Ok n) (hn:n<=1000000000000000) :
  Calls Tryz.prog 44 #[.pointer (some ⟨B.x,0,none⟩)] w fun e w'=>e=.returned (.tuple #[])/\KLeft B S none_ K.tick w w':=by
 have c0:=ok.c0
 have c1:K.clock<=1000000000000000:=by have:=ok.c1;omega
 have hh:=h
 obtain ⟨cs,rv,sl,at_,hS⟩:=h
 have hc0:w.cell? ⟨B.x,0,none⟩=some (.int .u64 K.clock):=by rw [<- R.cl];exact (at_.cell 0).trans at_.c0
 have hf0:=at_.fro 0
 have A:=at_.setX (j:=0) (x:=.int .u64 (K.clock+1)) (M':={ M with clock:=M.clock+1 }) (by omega) (.inl rfl) rfl rfl rfl rfl rfl (by rw [Array.getElem?_setIfInBounds_self_of_lt (by have:=at_.size;omega),R.cl]) (fun i hi=>by rw [Array.getElem?_setIfInBounds_ne (by omega)];exact at_.fr i hi)
 have L1:PLeft B S { M with clock:=M.clock+1 } w (w.setCell ⟨B.x,0,none⟩ (.int .u64 (K.clock+1))):=PLeft.of (M:=M) hS rfl A.1 (fun k hk=>.inl hk) A.2 (fun k e=>.inl (.inl e))
 have R1:=R.clock
 have ft1:K.ticked.Fit:=ok.ft.nums _ _ _
 have nm1:K.ticked.Num (16*n+16):=ok.nm.same rfl rfl rfl
 obtain ⟨⟨S1,h1,o1⟩,F1⟩:=L1
 have C:=mCurrent_any B S1 none_ _ K.ticked _ h1 R1 ft1
 obtain ⟨ln,hln⟩:∃ ln,K.threads.length=ln:=⟨_,rfl⟩
 have sl1:K.ticked.spent.threads.length=ln:=by
  have:=(same_clo K.ticked).spent (b:=0) (Same.refl K.ticked)
  rw [this.len];exact hln
 have sl2:K.ticked.spent.clock=K.clock+1:=by
  have:=(same_clo K.ticked).spent (b:=0) (Same.refl K.ticked)
  rw [this.cl];rfl
 have Y:Hid (K.ticked.spent.threads.length=ln/\K.ticked.spent.clock=K.clock+1/\K.ticked.spent.Fit/\K.ticked.spent.Num (16*n+16+1)/\0<=K.clock/\K.clock<=1000000000000000/\K.threads.length=ln):=⟨sl1,sl2,ft1.spent,num_clo.spent nm1,c0,c1,hln⟩
 have z1:(w.setCell ⟨B.x,0,none⟩ (.int .u64 (K.clock+1))).heap.size=w.heap.size:=by simp [World.setCell]
 have mln:({ M with clock:=M.clock+1 }:PM).threads.length=ln:=by rw [R1.len];exact hln
 have h6:ln<=6:=by rw [<- hln];exact ok.ft.six
 by_cases hcur:K.ticked.cur < 0
 ·have ec:K.ticked.cur=-1:=by
   rcases curM_inv K.ticked.threads K.ticked.threads.length (Nat.le_refl _) with e | ⟨j,u,e,_⟩
   ·exact e
   ·have:K.ticked.cur=j:=e
    omega
  rw [ec] at C
  have es:=spent_no hcur
  have HC:=hid C
  have R1':Rel none_ ({ M with clock:=M.clock+1 }:PM) K.ticked.spent:=by rw [es];exact R1
  have ST:=hid (And.intro h1 (And.intro R1' (And.intro o1 F1)))
  have hc1:(w.setCell ⟨B.x,0,none⟩ (.int .u64 (K.clock+1))).cell? ⟨B.x,1,none⟩=some (.slice (some ⟨B.g,0,none⟩) ln B.c):=by rw [<- mln];exact (A.1.cell 1).trans A.1.c1
  clear at_ hS hh A R R1 ft1 nm1 h1 o1 F1 C ok sl1 sl2 hln mln R1' es ec hcur
  go_enter Tryz.func44,Tryz.ntmps44
  go_wp2_with (go_at_call 43;refine HC.out.mono ?_;rintro e w2 ⟨rfl,rfl⟩)
  go_loopw [23] (fun i wr=>∃ (k:Nat) (S':Nat->Prop) (M':PM),k<=ln/\i=.int .i64 k/\Hid (PRep wr B S' M'/\Rel none_ M' (K.ticked.spent.tickTo k)/\(∀ b,S' b->S b\/w.heap.size<=b)/\Fr S w wr)) (fun i _=>ln-(intOf i).toNat)
  case atStart=>exact ⟨0,S1,_,Nat.zero_le _,rfl,ST.out.1,ST.out.2.1,ST.out.2.2.1,ST.out.2.2.2⟩
  case round=>
   obtain ⟨k,S',M',hk,rfl,HI⟩:=hrel
   by_cases hlt:k < ln
   ·obtain ⟨t1,t2,_⟩:=tickTo_same K.ticked.spent k
    obtain ⟨u,hu⟩:∃ u,(K.ticked.spent.tickTo k).threads[k]? = some u:=⟨_,List.getElem?_eq_getElem (by rw [t1,Y.out.1];exact hlt)⟩
    obtain ⟨cs,rv,sl,at_,hS⟩:=HI.out.1
    obtain ⟨p,hp,RT⟩:=HI.out.2.1.get hu
    obtain ⟨s0,hs0⟩:=at_.sl_get hp
    have ml:M'.threads.length=ln:=by rw [HI.out.2.1.len,t1];exact Y.out.1
    have hc1:wr.cell? ⟨B.x,1,none⟩=some (.slice (some ⟨B.g,0,none⟩) ln B.c):=by rw [<- ml];exact (at_.cell 1).trans at_.c1
    have hcl:wr.cell? ⟨B.x,0,none⟩=some (.int .u64 (K.clock+1)):=by
     have e9:M'.clock=K.clock+1:=by rw [HI.out.2.1.cl,t2];exact Y.out.2.1
     rw [<- e9];exact (at_.cell 0).trans at_.c0
    have k15:=(at_.tcell hp hs0 15 (by omega)).trans (show (prow p s0)[15]? = some (.int .u64 p.time) from rfl)
    have ft2:=Y.out.2.2.1.tickTo k
    have nm2:=num_clo.tickTo Y.out.2.2.2.1 k
    have tm:p.time=K.clock+1↔u.time=K.clock+1:=by
     by_cases q1:u.st=1
     ·have:=RT.idle q1
      have z:=this.2 id
      rw [z,this.1]
      have:=Y.out.2.2.2.2.1
      omega
     ·exact (RT.time q1 id).at (by have:=Y.out.2.2.2.2.1;omega) (by have:=Y.out.2.2.2.2.2;omega)
    have es:=tickTo_step hu
    rw [t2,Y.out.2.1] at es
    have hlt':(k:Int) < (ln:Int):=by omega
    have h6:ln<=6:=by rw [<- ml];exact HI.out.2.1.six ft2
    by_cases q:u.time=K.clock+1
    ·have hst:u.st≠1:=fun e=>by have:=(RT.idle e).1;have:=Y.out.2.2.2.2.1;omega
     have d:(p.time == K.clock+1)=true:=by simpa using tm.2 q
     have HG:Hid (∀ w1,Below wr.heap.size wr w1->_):=fun w1 hb=>giveUp_rel B S' M' (K.ticked.spent.tickTo k) _ k u w1 (HI.out.1.below hb) HI.out.2.1 ft2 nm2 hu hst
     rw [if_pos q] at es
     have HES:=hid es
     generalize p.time=pt at *
     clear at_ hS hp RT hs0 ft2 nm2 hu hst tm es q ml t1 t2
     go_wp2
     go_quiet (fail)
     go_wp2_with (go_at_call 80;refine (HG.out _ (below_drewN (Below.refl _ _) _)).mono ?_;rintro e w3 ⟨rfl,L3⟩;replace L3:=hid L3)
     refine ⟨⟨k+1,L3.out.choose_spec.1.1.choose,L3.out.choose,by omega,by go_num,?_⟩,by simp [intOf];omega⟩
     have Z:=L3.out.choose_spec
     have ZZ:=Z.1.1.choose_spec
     refine ⟨ZZ.1,by rw [HES.out];exact Z.2,fun i hi=>?_,(HI.out.2.2.2.trans (Fr.of_below (below_drewN (Below.refl _ _) _) S)).next Z.1.2 HI.out.2.2.1⟩
     rcases ZZ.2 i hi with e | e
     ·exact HI.out.2.2.1 i e
     ·exact .inr (Nat.le_trans HI.out.2.2.2.size e)
    ·have d:(p.time == K.clock+1)=false:=by simp;exact fun e=>q (tm.1 e)
     rw [if_neg q] at es
     have HES:=hid es
     generalize p.time=pt at *
     clear at_ hS hp RT hs0 ft2 nm2 hu tm es q ml t1 t2
     go_wp2
     go_quiet (fail)
     go_wp2
     refine ⟨⟨k+1,S',M',by omega,by go_num,HI.out.1.below (below_drewN (Below.refl _ _) _),by rw [HES.out];exact HI.out.2.1,HI.out.2.2.1,HI.out.2.2.2.trans (Fr.of_below (below_drewN (Below.refl _ _) _) S)⟩,by simp [intOf];omega⟩
   ·have hkl:k=ln:=by omega
    subst hkl
    go_wp2
    go_end0
    refine ⟨rfl,M',⟨⟨S',HI.out.1,HI.out.2.2.1⟩,HI.out.2.2.2⟩,?_⟩
    have e9:K.tick=K.ticked.spent.tickTo k:=by unfold RM.tick;rw [show K.threads.length=k from Y.out.2.2.2.2.2.2]
    rw [e9]
    exact HI.out.2.1
 ·obtain ⟨t,u,et,hu,s1⟩:=K.ticked.cur_in hcur
  rw [et] at C
  have HC:=hid C
  have hne:((t:Int) != -1)=true:=by simp
  have HS:Hid (Calls Tryz.prog 79 #[.pointer (some ⟨B.x,0,none⟩),.int .i64 t] (w.setCell ⟨B.x,0,none⟩ (.int .u64 (K.clock+1))) fun e w3=>e=.returned (.tuple #[])/\∃ S3 M3,(PRep w3 B S3 M3/\Rel none_ M3 K.ticked.spent/\(∀ i,S3 i->S i\/w.heap.size<=i)/\Fr S w w3)/\w3.cell? ⟨B.x,1,none⟩=some (.slice (some ⟨B.g,0,none⟩) ln B.c)):=by
   refine (spend_rel B S1 _ K.ticked _ t u _ h1 R1 ft1 nm1 et hu s1).mono ?_
   rintro e w3 ⟨rfl,M3,⟨⟨S3,h3,o3⟩,F3⟩,R3⟩
   have ml3:M3.threads.length=ln:=by rw [R3.len];exact sl1
   refine ⟨rfl,S3,M3,⟨h3,R3,fun i hi=>(o3 i hi).elim (o1 i) (fun e=>.inr (by omega)),F1.next F3 o1⟩,?_⟩
   obtain ⟨cs3,rv3,sl3,at3,_⟩:=h3
   rw [<- ml3]
   exact (at3.cell 1).trans at3.c1
  clear at_ hS hh A R R1 ft1 nm1 h1 o1 F1 C ok sl1 sl2 hln mln hcur et hu s1
  go_enter Tryz.func44,Tryz.ntmps44
  go_wp2_with (first
   | (go_at_call 43;refine HC.out.mono ?_;rintro e w2 ⟨rfl,rfl⟩)
   | (go_at_call 79;refine HS.out.mono ?_;rintro e w3 ⟨rfl,S3,M3,L3,hc1⟩;replace L3:=hid L3))
  go_loopw [23] (fun i wr=>∃ (k:Nat) (S':Nat->Prop) (M':PM),k<=ln/\i=.int .i64 k/\Hid (PRep wr B S' M'/\Rel none_ M' (K.ticked.spent.tickTo k)/\(∀ b,S' b->S b\/w.heap.size<=b)/\Fr S w wr)) (fun i _=>ln-(intOf i).toNat)
  case atStart=>exact ⟨0,S3,M3,Nat.zero_le _,rfl,L3.out.1,L3.out.2.1,L3.out.2.2.1,L3.out.2.2.2⟩
  case round=>
   obtain ⟨k,S',M',hk,rfl,HI⟩:=hrel
   by_cases hlt:k < ln
   ·obtain ⟨t1,t2,_⟩:=tickTo_same K.ticked.spent k
    obtain ⟨u,hu⟩:∃ u,(K.ticked.spent.tickTo k).threads[k]? = some u:=⟨_,List.getElem?_eq_getElem (by rw [t1,Y.out.1];exact hlt)⟩
    obtain ⟨cs,rv,sl,at_,hS⟩:=HI.out.1
    obtain ⟨p,hp,RT⟩:=HI.out.2.1.get hu
    obtain ⟨s0,hs0⟩:=at_.sl_get hp
    have ml:M'.threads.length=ln:=by rw [HI.out.2.1.len,t1];exact Y.out.1
    have hc1:wr.cell? ⟨B.x,1,none⟩=some (.slice (some ⟨B.g,0,none⟩) ln B.c):=by rw [<- ml];exact (at_.cell 1).trans at_.c1
    have hcl:wr.cell? ⟨B.x,0,none⟩=some (.int .u64 (K.clock+1)):=by
     have e9:M'.clock=K.clock+1:=by rw [HI.out.2.1.cl,t2];exact Y.out.2.1
     rw [<- e9];exact (at_.cell 0).trans at_.c0
    have k15:=(at_.tcell hp hs0 15 (by omega)).trans (show (prow p s0)[15]? = some (.int .u64 p.time) from rfl)
    have ft2:=Y.out.2.2.1.tickTo k
    have nm2:=num_clo.tickTo Y.out.2.2.2.1 k
    have tm:p.time=K.clock+1↔u.time=K.clock+1:=by
     by_cases q1:u.st=1
     ·have:=RT.idle q1
      have z:=this.2 id
      rw [z,this.1]
      have:=Y.out.2.2.2.2.1
      omega
     ·exact (RT.time q1 id).at (by have:=Y.out.2.2.2.2.1;omega) (by have:=Y.out.2.2.2.2.2;omega)
    have es:=tickTo_step hu
    rw [t2,Y.out.2.1] at es
    have hlt':(k:Int) < (ln:Int):=by omega
    have h6:ln<=6:=by rw [<- ml];exact HI.out.2.1.six ft2
    by_cases q:u.time=K.clock+1
    ·have hst:u.st≠1:=fun e=>by have:=(RT.idle e).1;have:=Y.out.2.2.2.2.1;omega
     have d:(p.time == K.clock+1)=true:=by simpa using tm.2 q
     have HG:Hid (∀ w1,Below wr.heap.size wr w1->_):=fun w1 hb=>giveUp_rel B S' M' (K.ticked.spent.tickTo k) _ k u w1 (HI.out.1.below hb) HI.out.2.1 ft2 nm2 hu hst
     rw [if_pos q] at es
     have HES:=hid es
     generalize p.time=pt at *
     clear at_ hS hp RT hs0 ft2 nm2 hu hst tm es q ml t1 t2
     go_wp2
     go_quiet (fail)
     go_wp2_with (go_at_call 80;refine (HG.out _ (below_drewN (Below.refl _ _) _)).mono ?_;rintro e w3 ⟨rfl,L3⟩;replace L3:=hid L3)
     refine ⟨⟨k+1,L3.out.choose_spec.1.1.choose,L3.out.choose,by omega,by go_num,?_⟩,by simp [intOf];omega⟩
     have Z:=L3.out.choose_spec
     have ZZ:=Z.1.1.choose_spec
     refine ⟨ZZ.1,by rw [HES.out];exact Z.2,fun i hi=>?_,(HI.out.2.2.2.trans (Fr.of_below (below_drewN (Below.refl _ _) _) S)).next Z.1.2 HI.out.2.2.1⟩
     rcases ZZ.2 i hi with e | e
     ·exact HI.out.2.2.1 i e
     ·exact .inr (Nat.le_trans HI.out.2.2.2.size e)
    ·have d:(p.time == K.clock+1)=false:=by simp;exact fun e=>q (tm.1 e)
     rw [if_neg q] at es
     have HES:=hid es
     generalize p.time=pt at *
     clear at_ hS hp RT hs0 ft2 nm2 hu tm es q ml t1 t2
     go_wp2
     go_quiet (fail)
     go_wp2
     refine ⟨⟨k+1,S',M',by omega,by go_num,HI.out.1.below (below_drewN (Below.refl _ _) _),by rw [HES.out];exact HI.out.2.1,HI.out.2.2.1,HI.out.2.2.2.trans (Fr.of_below (below_drewN (Below.refl _ _) _) S)⟩,by simp [intOf];omega⟩
   ·have hkl:k=ln:=by omega
    subst hkl
    go_wp2
    go_end0
    refine ⟨rfl,M',⟨⟨S',HI.out.1,HI.out.2.2.1⟩,HI.out.2.2.2⟩,?_⟩
    have e9:K.tick=K.ticked.spent.tickTo k:=by unfold RM.tick;rw [show K.threads.length=k from Y.out.2.2.2.2.2.2]
    rw [e9]
    exact HI.out.2.1
theorem mYield_no (B:Bk) (S:Nat->Prop) (M:PM) (K:RM) (w:World) (h:PRep w B S M) (R:Rel none_ M K) (ft:K.Fit) (hc:K.cur < 0) :
  Calls Tryz.prog 46 #[.pointer (some ⟨B.x,0,none⟩)] w fun e w'=>e=.returned (.iface 166 (.agg #[.string ⟨#[89,105,101,108,100]⟩,.iface 160 (.agg #[.int .i64 2])]))/\w'=w:=by
 have HC:=hid (caller_no B S M K w h R ft hc)
 have hne:∀ w,(binOp .neq 114 (.iface 160 (.agg #[.int .i64 2])) .nilIface).run Tryz.prog w=.ok (.bool true) w:=fun w=>rfl
 clear h R ft hc
 go_enter Tryz.func46,Tryz.ntmps46
 go_wp2_with (go_at_call 82;refine HC.out.mono ?_;rintro e w2 ⟨rfl,rfl⟩)
 go_ret
 exact ⟨rfl,rfl⟩
theorem mYield_yes (B:Bk) (S:Nat->Prop) (M:PM) (K:RM) (b t:Nat) (w:World) (h:PRep w B S M) (R:Rel none_ M K) (ft:K.Fit) (nm:K.Num b) (hc:K.cur=t) :
  Calls Tryz.prog 46 #[.pointer (some ⟨B.x,0,none⟩)] w fun e w'=>e=.returned .nilIface/\KLeft B S none_ ((K.setLeft t 3).toLast t) w w':=by
 obtain ⟨j,u,e,hu,s1⟩:=K.cur_in (by omega)
 have ej:j=t:=by omega
 subst ej
 have HC:=hid (caller_yes B S M K j w h R ft hc)
 have HE:=hid (endTurn_rel B S M K b j u w h R ft nm hu s1)
 clear h R ft hc nm hu s1 e
 go_enter Tryz.func46,Tryz.ntmps46
 go_wp2_with (first
  | (go_at_call 82;refine HC.out.mono ?_;rintro e w2 ⟨rfl,rfl⟩)
  | (go_at_call 83;refine HE.out.mono ?_;rintro e w3 ⟨rfl,L⟩;replace L:=hid L))
 go_ret
 exact ⟨rfl,L.out⟩
end Go.Proofs.YteejjgbeknnmeaaGreatDoor
