import Derived.Test.YteejjgbeknnmeaaGreatDoorJ16
import Derived.Test.YteejjgbeknnmeaaGreatDoorJ13
set_option maxRecDepth 100000
set_option maxHeartbeats 20000000
namespace Go.Proofs.YteejjgbeknnmeaaGreatDoor
open Go.RowKit
def none_:Nat->Prop:=fun _=>False
def only (i:Nat):Nat->Prop:=fun j=>j=i
theorem Rel.acts {act act':Nat->Prop}{M:PM}{K:RM}(h:Rel act M K) (e:∀ i,act' i↔act i):Rel act' M K:=by
 have:act'=act:=funext (fun i=>propext (e i))
 rw [this];exact h
section
variable {act:Nat->Prop}{M:PM}{K:RM}
theorem Rel.six (h:Rel act M K) (ft:K.Fit):M.threads.length<=6:=by rw [h.len];exact ft.six
theorem Rel.lnN (h:Rel act M K){r:Nat}(hr:r < 4):(M.ln r).Nodup:=(h.rows r hr).nodup
theorem Rel.lnL (h:Rel act M K) (ft:K.Fit){r:Nat}(hr:r < 4):(M.ln r).length<=1000:=by
 have:=nodup_lt K.threads.length (M.ln r) (h.lnN hr) (fun t ht=>by obtain ⟨u,hu,_⟩:=((h.rows r hr).mem t).1 ht;exact (List.getElem?_eq_some_iff.1 hu).1)
 have:=ft.six
 omega
theorem Rel.wlN (h:Rel act M K){r:Nat}{p:PT}(hp:M.threads[r]? = some p):p.wl.Nodup:=(h.wl r p hp).nodup
theorem Rel.wlL (h:Rel act M K) (ft:K.Fit){r:Nat}{p:PT}(hp:M.threads[r]? = some p):p.wl.length<=1000:=by
 have:=nodup_lt K.threads.length p.wl (h.wlN hp) (fun t ht=>by obtain ⟨u,hu,_⟩:=((h.wl r p hp).mem t).1 ht;exact (List.getElem?_eq_some_iff.1 hu).1)
 have:=ft.six
 omega
theorem Rel.rowN (h:Rel act M K) (ft:K.Fit){i:Nat}{t:Th}{p:PT}(ht:K.threads[i]? = some t) (hp:M.threads[i]? = some p):∃ r:Nat,p.row=r/\r < 4/\t.row.toNat=r:=by
 have f:=ft.th i t ht
 obtain ⟨r,hr⟩:=Int.eq_ofNat_of_zero_le f.r0
 have R:=h.th i t p ht hp
 exact ⟨r,by rw [R.row,hr],by have:=f.r1;omega,by omega⟩
theorem LOk.of (ft:K.Fit):∃ rk,LOk rk K.sp K.leaves:=by
 obtain ⟨r,hk⟩:=ft.kin
 exact ⟨r,ft.ap,hk,ft.lf⟩
end
theorem mCurrent_any (B:Bk) (S:Nat->Prop) (act:Nat->Prop) (M:PM) (K:RM) (w:World) (h:PRep w B S M) (R:Rel act M K) (ft:K.Fit) :
  Calls Tryz.prog 43 #[.pointer (some ⟨B.x,0,none⟩)] w fun e w'=>e=.returned (.int .i64 K.cur)/\w'=w:=by
 obtain ⟨cs,rv,sl,h,hS⟩:=h
 have HH:=hid (And.intro h (And.intro R ft))
 clear h R ft hS
 go_enter Tryz.func43,Tryz.ntmps43
 go_wp2
 go_loop [3] (fun i=>∃ k:Int,-1<=k/\k<=3/\i=.int .i64 k/\Hid (∀ s:Nat,k < s->s < 4->M.ln s=[])) (fun i=>(intOf i+1).toNat)
 case atStart=>exact ⟨3,by omega,by omega,rfl,fun s hs h4=>by omega⟩
 case round=>
  obtain ⟨k,hk,hk3,rfl,hno⟩:=hrel
  by_cases hlt:0<=k
  ·obtain ⟨r,rfl⟩:=Int.eq_ofNat_of_zero_le hlt
   have hr4:r < 4:=by omega
   have hr4':(r:Int) < 4:=by omega
   have C:=first_any B.x (2+r) (rv r) (M.ln r) w ((HH.out.1.cell (2+r)).trans (HH.out.1.row r hr4)) (HH.out.1.rown hr4).1 (HH.out.2.1.lnL HH.out.2.2 hr4)
   rcases hll:M.ln r with _ | ⟨t,rest⟩
   ·rw [hll] at C
    have HC:=hid C
    have HL:=hid hll
    clear C hll
    go_wp2_with (go_at_call 78;refine HC.out.mono ?_;rintro e w' ⟨rfl,rfl⟩)
    refine ⟨⟨(r:Int)-1,by omega,by omega,rfl,fun q hq h4=>?_⟩,by simp only [intOf];omega⟩
    by_cases e:q=r
    ·rw [e];exact HL.out
    ·exact hno.out q (by omega) h4
   ·rw [hll] at C
    have HC:=hid C
    have HL:=hid hll
    clear C hll
    go_wp2_with (go_at_call 78;refine HC.out.mono ?_;rintro e w' ⟨rfl,rfl⟩)
    go_ret
    exact ⟨ret_int (HH.out.2.1.cur_head HH.out.2.2 hr4 HL.out (fun q hq h4=>hno.out q (by omega) h4)).symm,rfl⟩
  ·have hkk:k=-1:=by omega
   subst hkk
   go_wp2
   go_ret
   exact ⟨ret_int (HH.out.2.1.cur_none HH.out.2.2 (fun r hr=>hno.out r (by omega) hr)).symm,rfl⟩
theorem caller_no (B:Bk) (S:Nat->Prop) (M:PM) (K:RM) (w:World) (h:PRep w B S M) (R:Rel none_ M K) (ft:K.Fit) (hc:K.cur < 0) :
  Calls Tryz.prog 82 #[.pointer (some ⟨B.x,0,none⟩)] w fun e w'=>e=.returned (.tuple #[.int .i64 (-1),.iface 160 (.agg #[.int .i64 2])])/\w'=w:=by
 have C:=mCurrent_any B S none_ M K w h R ft
 have ec:K.cur=-1:=by
  rcases curM_inv K.threads K.threads.length (Nat.le_refl _) with e | ⟨j,u,e,_⟩
  ·exact e
  ·have:K.cur=j:=e
   omega
 rw [ec] at C
 have HC:=hid C
 clear C h R ft hc ec
 go_enter Tryz.func82,Tryz.ntmps82
 go_wp2_with (go_at_call 43;refine HC.out.mono ?_;rintro e w2 ⟨rfl,rfl⟩)
 go_ret2
 exact ⟨rfl,rfl⟩
theorem caller_yes (B:Bk) (S:Nat->Prop) (M:PM) (K:RM) (t:Nat) (w:World) (h:PRep w B S M) (R:Rel none_ M K) (ft:K.Fit) (hc:K.cur=t) :
  Calls Tryz.prog 82 #[.pointer (some ⟨B.x,0,none⟩)] w fun e w'=>e=.returned (.tuple #[.int .i64 t,.nilIface])/\w'=w:=by
 have C:=mCurrent_any B S none_ M K w h R ft
 rw [hc] at C
 have HC:=hid C
 have d:((t:Int) == -1)=false:=by simp
 clear C h R ft hc
 go_enter Tryz.func82,Tryz.ntmps82
 go_wp2_with (go_at_call 43;refine HC.out.mono ?_;rintro e w2 ⟨rfl,rfl⟩)
 go_ret2
 exact ⟨rfl,rfl⟩
def KLeft (B:Bk) (S:Nat->Prop) (act:Nat->Prop) (K:RM) (w w':World):Prop:=∃ M,PLeft B S M w w'/\Rel act M K
theorem end_rel (B:Bk) (S:Nat->Prop) (act:Nat->Prop) (M:PM) (K:RM) (_n b:Nat) (code:Int) (t:Nat) (u:Th) (stands:Bool) (w:World) (h:PRep w B S M) (R:Rel act M K) (ft:K.Fit) (nm:K.Num b) (hu:K.threads[t]? = some u) (ha:u.st≠2\/act t) (hst:stands=true↔u.st=1) :
  Calls Tryz.prog 125 #[.pointer (some ⟨B.x,0,none⟩),.int .i64 t,.int .i64 code] w fun e w'=>e=.returned (.tuple #[])/\KLeft B S (Wo act t) (if stands=true then K.over t code else (K.over t code).toLast t) w w':=by
 obtain ⟨p,hp,RT⟩:=R.get hu
 obtain ⟨r,hr,h4,er⟩:=R.rowN ft hu hp
 by_cases e:stands=true
 ·have s1:=hst.1 e
  refine (end_ready B S M t p code w h hp (R.six ft) (by rw [RT.st];exact s1)).mono ?_
  rintro e' w' ⟨rfl,L⟩
  rw [if_pos e]
  exact ⟨rfl,_,L,R.over hu s1 code⟩
 ·refine (end_wait B S M t p code r w h hp (R.six ft) (by rw [RT.st];exact fun x=>e (hst.2 x)) hr h4 (R.lnL ft h4) (R.lnN h4)).mono ?_
  rintro e' w' ⟨rfl,L⟩
  rw [if_neg e]
  refine ⟨rfl,_,L,?_⟩
  have:=R.overLast ft nm hu ha code
  rw [er] at this
  exact this
theorem pause3_rel (B:Bk) (S:Nat->Prop) (act:Nat->Prop) (M:PM) (K:RM) (t:Nat) (u:Th) (w:World) (h:PRep w B S M) (R:Rel act M K) (ft:K.Fit) (hu:K.threads[t]? = some u) (ha:act t) :
  Calls Tryz.prog 136 #[.pointer (some ⟨B.x,0,none⟩),.int .i64 t,.int .i64 3] w fun e w'=>e=.returned (.tuple #[])/\KLeft B S (Wo act t) (K.waits t 3 (-1)) w w':=by
 obtain ⟨p,hp,RT⟩:=R.get hu
 obtain ⟨r,hr,h4,er⟩:=R.rowN ft hu hp
 refine (pause_any B S M t p 3 r w h hp (R.six ft) hr h4 (R.lnL ft h4) (R.lnN h4)).mono ?_
 rintro e' w' ⟨rfl,L⟩
 refine ⟨rfl,_,L,?_⟩
 have:=R.waits3 ft hu ha
 rw [er] at this
 exact this
theorem LendOk.of {act:Nat->Prop}{M:PM}{K:RM}(R:Rel act M K) (ft:K.Fit){s r:Nat}{a c:Th}{p q:PT}(ha:K.threads[s]? = some a) (hc:K.threads[r]? = some c) (hp:M.threads[s]? = some p) (hq:M.threads[r]? = some q) (par:Par a p) (hcr:c.st=3\/act r):∃ rk,LendOk M p q rk:=by
 obtain ⟨rk,ok⟩:=LOk.of ft
 have Ra:=R.th s a p ha hp
 have Rc:=R.th r c q hc hq
 have fa:=ft.th s a ha
 have fc:=ft.th r c hc
 have ta:=Rc.talk (hcr.imp (fun e=>by omega) id)
 refine ⟨rk,by rw [R.sp,R.lf];exact ok,by rw [R.sp];exact ft.sp3,by rw [Ra.sp];exact fa.s0,by rw [Ra.sp,R.sp];exact fa.s1,by rw [Rc.sp];exact fc.s0,by rw [Rc.sp,R.sp];exact fc.s1,?_,?_,ta.2.2.2.2,by rw [ta.2.1];exact fc.win⟩
 ·rw [par.2.1];split
  ·exact par.2.2.2.1
  ·omega
 ·rw [par.2.1];split
  ·exact par.2.2.2.2
  ·omega
theorem deliver_rel (B:Bk) (S:Nat->Prop) (act:Nat->Prop) (M:PM) (K:RM) (b:Nat) (s r:Nat) (a c:Th) (p:PT) (stands:Bool) (w:World) (h:PRep w B S M) (R:Rel act M K) (ft:K.Fit) (nm:K.Num b) (ha:K.threads[s]? = some a) (hc:K.threads[r]? = some c) (hp:M.threads[s]? = some p) (hsr:s≠r) (has:act s) (hcr:c.st=3\/act r) (par:Par a p) (hst:stands=true↔c.st=1) :
  Calls Tryz.prog 134 #[.pointer (some ⟨B.x,0,none⟩),.int .i64 s,.int .i64 r] w fun e w'=>e=.returned (.tuple #[])/\KLeft B S (Wo act r) (K.heard s r stands) w w':=by
 obtain ⟨q,hq,RT⟩:=R.get hc
 obtain ⟨rr,hr,h4,er⟩:=R.rowN ft hc hq
 obtain ⟨rk,lo⟩:=LendOk.of R ft ha hc hp hq par hcr
 have d:(q.st != 1)=!stands:=by
  rw [RT.st]
  cases stands with
  | true=>simp [hst.1 rfl]
  | false=>simp;exact fun e=>by have:=hst.2 e;simp at this
 refine (deliver_any B S M s r p q rk rr stands w h hp hq hsr (R.six ft) lo hr h4 (R.lnL ft h4) (R.lnN h4) d).mono ?_
 rintro e' w' ⟨rfl,L⟩
 exact ⟨rfl,_,L,R.heard ft nm ha hc hp hq hsr has hcr par stands hst⟩
theorem wlLeave_left (B:Bk) (S:Nat->Prop) (M:PM) (r t:Nat) (q:PT) (w:World) (h:PRep w B S M) (hq:M.threads[r]? = some q) (hl:q.wl.length<=1000) (hn:q.wl.Nodup) :
  Calls Tryz.prog 124 #[.pointer (some ⟨B.g,r*17+16,none⟩),.int .i64 t] w fun e w'=>e=.returned (.tuple #[])/\PLeft B S (M.upd r (fun p=>{ p with wl:=q.wl.erase t })) w w':=by
 obtain ⟨cs,rv,sl,h,hS⟩:=h
 obtain ⟨s,hs⟩:=h.sl_get hq
 refine (wlLeave_any B M cs rv sl r t q s w h hq hs hl hn).mono ?_
 rintro e w' ⟨rfl,v',a,o,f⟩
 exact ⟨rfl,PLeft.of (M:=M) hS (by simp [PM.upd]) a o f (fun k e=>e)⟩
theorem wlLast_left (B:Bk) (S:Nat->Prop) (M:PM) (r t:Nat) (q:PT) (w:World) (h:PRep w B S M) (hq:M.threads[r]? = some q) (hl:q.wl.length<=1000) (hn:q.wl.Nodup) :
  Calls Tryz.prog 131 #[.pointer (some ⟨B.g,r*17+16,none⟩),.int .i64 t] w fun e w'=>e=.returned (.tuple #[])/\PLeft B S (M.upd r (fun p=>{ p with wl:=q.wl.erase t ++ [t] })) w w':=by
 obtain ⟨cs,rv,sl,h,hS⟩:=h
 obtain ⟨s,hs⟩:=h.sl_get hq
 refine (wlLast_any B M cs rv sl r t q s w h hq hs hl hn).mono ?_
 rintro e w' ⟨rfl,v',a,o,f⟩
 exact ⟨rfl,PLeft.of (M:=M) hS (by simp [PM.upd]) a o f (fun k e=>e)⟩
theorem PRep.drew {w:World}{B:Bk}{S:Nat->Prop}{M:PM}(h:PRep w B S M):PRep w.drew B S M:=h.kept ((Fr.refl (fun _=>False) w).drew) (fun _ _ h=>h)
theorem PLeft.drewL {w w':World}{B:Bk}{S:Nat->Prop}{M:PM}(h:PLeft B S M w.drew w'):PLeft B S M w w':=⟨⟨h.1.choose,h.1.choose_spec.1,h.1.choose_spec.2⟩,((Fr.refl S w).drew).trans h.2⟩
theorem KLeft.drewL {w w':World}{B:Bk}{S:Nat->Prop}{act:Nat->Prop}{K:RM}(h:KLeft B S act K w.drew w'):KLeft B S act K w w':=by
 obtain ⟨M,h,R⟩:=h
 exact ⟨M,h.drewL,R⟩
theorem KLeft.acts {w w':World}{B:Bk}{S:Nat->Prop}{act act':Nat->Prop}{K:RM}(h:KLeft B S act K w w') (e:∀ i,act' i↔act i):KLeft B S act' K w w':=by
 obtain ⟨M,h,R⟩:=h
 exact ⟨M,h,R.acts e⟩
def RecvRel (n:Nat):Prop:=∀ (B:Bk) (S:Nat->Prop) (M:PM) (K:RM) (b t:Nat) (u:Th) (stands:Bool) (w:World),PRep w B S M->Rel (only t) M K->K.Fit->K.Num b->K.threads[t]? = some u->(stands=true↔u.st=1)->sending K.threads+(if u.st=2 then 0 else 1)<=n ->
 Calls Tryz.prog 85 #[.pointer (some ⟨B.x,0,none⟩),.int .i64 t] w fun e w'=>e=.returned (.tuple #[])/\KLeft B S none_ (K.recv n t stands) w w'
theorem goOn_rel (n:Nat) (HR:RecvRel n) (B:Bk) (S:Nat->Prop) (M:PM) (K:RM) (b t:Nat) (u:Th) (stands:Bool) (w:World) (h:PRep w B S M) (R:Rel (only t) M K) (ft:K.Fit) (nm:K.Num b) (hu:K.threads[t]? = some u) (hst:stands=true↔u.st=1) (hn:sending K.threads+(if u.st=2 then 0 else 1)<=n) :
  Calls Tryz.prog 135 #[.pointer (some ⟨B.x,0,none⟩),.int .i64 t] w fun e w'=>e=.returned (.tuple #[])/\KLeft B S none_ (K.goes n t stands) w w':=by
 obtain ⟨p,hp,RT⟩:=R.get hu
 have ta:=RT.talk (.inr rfl)
 have hg:K.goes n t stands=if u.frm≠-2 then K.recv n t stands else if stands=true then K.over t 0 else (K.over t 0).toLast t:=by unfold RM.goes;rw [hu]
 rw [hg]
 have hE:=end_rel B S (only t) M K n b 0 t u stands w h R ft nm hu (.inr rfl) hst
 have hRv:=HR B S M K b t u stands w h R ft nm hu hst hn
 obtain ⟨cs,rv,sl,h,hS⟩:=h
 obtain ⟨s,hs⟩:=h.sl_get hp
 have htl:=(List.getElem?_eq_some_iff.1 hp).1
 have hc1:=(h.cell 1).trans h.c1
 have k12:=(h.tcell hp hs 12 (by omega)).trans (show (prow p s)[12]? = some (.int .i64 p.frm) from rfl)
 rw [ta.1] at k12
 have h6:=R.six ft
 generalize hm:M.threads.length=m at *
 have ht':(t:Int) < (m:Int):=by omega
 have HX:=hid (And.intro hE hRv)
 have e0:∀ i,none_ i↔Wo (only t) t i:=fun i=>⟨fun h=>h.elim,fun h=>h.2 h.1⟩
 clear h R ft nm hu hS hs hp RT ta hE hRv hst hn hg hm HR
 generalize u.frm=f at *
 by_cases q:f=-2
 ·have d:(f == -2)=true:=by simpa using q
  rw [if_neg (by omega)]
  have HE:=hid HX.out.1
  obtain ⟨KK,hKK⟩:∃ KK,(if stands=true then K.over t 0 else (K.over t 0).toLast t)=KK:=⟨_,rfl⟩
  rw [hKK] at HE ⊢
  clear HX hKK
  go_enter Tryz.func135,Tryz.ntmps135
  go_wp2_with (go_at_call 125;refine HE.out.mono ?_;rintro e w2 ⟨rfl,L⟩;replace L:=hid L)
  ((try simp only [Exit.inBlock,Exit.then]);refine bodyPost_ret (results_none rfl _ _ _) rfl ?_)
  exact ⟨rfl,L.out.acts e0⟩
 ·have d:(f == -2)=false:=by simpa using q
  rw [if_pos q]
  have HE:=hid HX.out.2
  clear HX
  go_enter Tryz.func135,Tryz.ntmps135
  go_wp2_with (go_at_call 85;refine HE.out.mono ?_;rintro e w2 ⟨rfl,L⟩;replace L:=hid L)
  go_end0
  exact ⟨rfl,L.out⟩
theorem hearsB_eq (f:Int):(hearsB f)=(fun (i:Nat)=>f == -1 || f == (i:Int)):=rfl
theorem recv_rel (n:Nat):RecvRel n:=by
 induction n with
 | zero=>
  intro B S M K b t u stands w h R ft nm hu hst hn
  exfalso
  by_cases e:u.st=2
  ·have:=sending_pos hu e
   rw [if_pos e] at hn
   omega
  ·rw [if_neg e] at hn
   omega
 | succ n IH=>
  intro B S M K b t u stands w h R ft nm hu hst hn
  obtain ⟨p,hp,RT⟩:=R.get hu
  have ta:=RT.talk (.inr rfl)
  have SE:=R.sen ft hp u.frm (fun i e=>e)
  rw [<- hearsB_eq] at SE
  have h6:=R.six ft
  have htl:=(List.getElem?_eq_some_iff.1 hp).1
  have HH:=hid (And.intro h (And.intro R (And.intro ft (And.intro nm (And.intro hu (And.intro hst (And.intro hn hp)))))))
  have e0:Hid (∀ i,none_ i↔Wo (only t) t i):=fun i=>⟨fun h=>h.elim,fun h=>h.2 h.1⟩
  obtain ⟨cs,rv,sl,at_,hS⟩:=h
  obtain ⟨s0,hs0⟩:=at_.sl_get hp
  have hc1:=(at_.cell 1).trans at_.c1
  have k12:=(at_.tcell hp hs0 12 (by omega)).trans (show (prow p s0)[12]? = some (.int .i64 p.frm) from rfl)
  have k14:=(at_.tcell hp hs0 14 (by omega)).trans (show (prow p s0)[14]? = some (.int .i64 p.wait) from rfl)
  have k16:=(at_.tcell hp hs0 16 (by omega)).trans (show (prow p s0)[16]? = some s0.2.2 from rfl)
  rw [ta.1] at k12
  rw [ta.2.2.1] at k14
  have FO:=firstHears B.g (t*17+8) u.frm B.g (t*17+16) s0.2.2 p.wl w.drew k16 (at_.wown hp hs0).1.drew (R.wlL ft hp) k12
  rcases hf:p.wl.find? (hearsB u.frm) with _ | s
  ·rw [hf] at FO
   have sn:=SE.2 hf
   have er:K.recv (n+1) t stands=if u.wait≠0 then K.waits t 3 (-1) else if stands=true then K.over t 5 else (K.over t 5).toLast t:=recv_none hu (by rw [sn];omega)
   rw [er]
   have HE:=hid (end_rel B S (only t) M K n b 5 t u stands w.drew HH.out.1.drew R ft nm hu (.inr rfl) hst)
   have HP:=hid (pause3_rel B S (only t) M K t u w.drew HH.out.1.drew R ft hu rfl)
   have HFO:=hid FO
   generalize hm:M.threads.length=m at *
   have ht':(t:Int) < (m:Int):=by omega
   clear FO SE sn er hf R RT ta ft nm hu hst hn hp at_ hs0 hS hm IH HH
   by_cases q:u.wait=0
   ·have d:(u.wait == 0)=true:=by simpa using q
    rw [if_neg (by omega)]
    obtain ⟨KK,hKK⟩:∃ KK,(if stands=true then K.over t 5 else (K.over t 5).toLast t)=KK:=⟨_,rfl⟩
    rw [hKK] at HE ⊢
    generalize u.wait=uw at *
    clear hKK q HP
    go_enter Tryz.func85,Tryz.ntmps85
    go_wp2
    go_region_with (go_at_call 122;refine HFO.out.mono ?_;rintro e w2 ⟨rfl,rfl⟩)
    all_goals
     go_wp2_with (go_at_call 125;refine HE.out.mono ?_;rintro e w3 ⟨rfl,L⟩;replace L:=hid L)
     ((try simp only [Exit.inBlock,Exit.then]);refine bodyPost_ret (results_none rfl _ _ _) rfl ?_)
     exact ⟨rfl,(L.out.acts e0.out).drewL⟩
   ·have d:(u.wait == 0)=false:=by simpa using q
    rw [if_pos q]
    generalize u.wait=uw at *
    clear q HE
    go_enter Tryz.func85,Tryz.ntmps85
    go_wp2
    go_region_with (go_at_call 122;refine HFO.out.mono ?_;rintro e w2 ⟨rfl,rfl⟩)
    all_goals
     go_wp2_with (go_at_call 136;refine HP.out.mono ?_;rintro e w3 ⟨rfl,L⟩;replace L:=hid L)
     go_end0
     exact ⟨rfl,(L.out.acts e0.out).drewL⟩
  ·rw [hf] at FO
   obtain ⟨sn,hsm,hst2⟩:=SE.1 s hf
   have er:=recv_some (n:=n) (stands:=stands) hu sn
   rw [er]
   obtain ⟨a,ha,a1,a2,a3⟩:=((R.wl t p hp).mem s).1 hsm
   obtain ⟨ps,hps,RS⟩:=R.get ha
   have sd:=RS.send a1 a3
   have par:Par a ps:=⟨sd.2.2.1,sd.2.2.2.1,sd.2.2.2.2.1,sd.2.2.2.2.2.1,sd.2.2.2.2.2.2⟩
   have R2:=R.leaves hp hsm
   have hps2:(M.upd t (fun q=>{ q with wl:=p.wl.erase s })).threads[s]? = some ps:=(get_modA (l:=M.threads) (t:=s) hp).trans ((if_neg hst2).trans hps)
   have HLv:=hid (wlLeave_left B S M t s p w.drew HH.out.1.drew hp (R.wlL ft hp) (R.wlN hp))
   have HD:Hid (∀ S2 w2,PRep w2 B S2 (M.upd t (fun q=>{ q with wl:=p.wl.erase s }))->_):=fun S2 w2 h2=>deliver_rel B S2 (Wi (only t) s) _ K b s t a u ps stands w2 h2 R2 ft nm ha hu hps2 hst2 (.inr rfl) (.inr (.inl rfl)) par hst
   obtain ⟨F,hF1,hF2⟩:=heard_threads stands ha hu
   have hz:(K.heard s t stands).threads[s]? = some a:=by rw [hF2,modify_other F hst2];exact ha
   have hsend:sending (K.heard s t stands).threads+(if a.st=2 then 0 else 1)<=n:=by
    rw [hF2,if_pos a1]
    have:=sending_modify F hu (by omega)
    split at this <;> rename_i e
    ·rw [if_pos e] at hn;omega
    ·rw [if_neg e] at hn;omega
   have HG:Hid (∀ S3 M3 w3,PRep w3 B S3 M3->Rel (only s) M3 (K.heard s t stands)->_):=fun S3 M3 w3 h3 R3=>goOn_rel n IH B S3 M3 (K.heard s t stands) (b+1) s a false w3 h3 R3 (ft.heard s t stands) (num_clo.heard s t stands nm) hz ⟨fun e=>by simp at e,fun e=>by omega⟩ hsend
   have e1:Hid (∀ i,only s i↔Wo (Wi (only t) s) t i):=fun i=>⟨fun h=>⟨.inr h,fun e=>hst2 (h.symm.trans e)⟩,fun h=>h.1.elim (fun e=>absurd e h.2) id⟩
   have HFO:=hid FO
   generalize hm:M.threads.length=m at *
   have ht':(t:Int) < (m:Int):=by omega
   clear FO SE sn er hf R RT ta ft nm hu hst hn hp at_ hs0 hS hm IH HH ha hps RS sd par R2 hps2 hz hsend hF2 hF1 hsm a3
   go_enter Tryz.func85,Tryz.ntmps85
   go_wp2
   go_region_with (go_at_call 122;refine HFO.out.mono ?_;rintro e w2 ⟨rfl,rfl⟩)
   all_goals
    go_wp2_with (first
     | (go_at_call 124;refine HLv.out.mono ?_;rintro e w3 ⟨rfl,L⟩;replace L:=hid L;obtain ⟨⟨S3,h3,o3⟩,F3⟩:=L.out;replace h3:=hid h3;replace o3:=hid o3;replace F3:=hid F3)
     | (go_at_call 134;refine (HD.out S3 w3 h3.out).mono ?_;rintro e w4 ⟨rfl,L4⟩;replace L4:=hid L4;obtain ⟨M4,⟨⟨S4,h4,o4⟩,F4⟩,R4⟩:=L4.out;replace h4:=hid h4;replace o4:=hid o4;replace F4:=hid F4;replace R4:=hid R4)
     | (go_at_call 135;refine (HG.out S4 M4 w4 h4.out (R4.out.acts e1.out)).mono ?_;rintro e w5 ⟨rfl,L5⟩;replace L5:=hid L5))
    ((try simp only [Exit.inBlock,Exit.then]);refine bodyPost_ret (results_none rfl _ _ _) rfl ?_)
    refine ⟨rfl,KLeft.drewL ?_⟩
    obtain ⟨M5,⟨⟨S5,h5,o5⟩,F5⟩,R5⟩:=L5.out
    have z3:=F3.out.size
    have z4:=F4.out.size
    have o34:∀ i,S4 i->S i\/w.drew.heap.size<=i:=fun i e=>(o4.out i e).elim (o3.out i) (fun e=>.inr (Nat.le_trans z3 e))
    exact ⟨M5,⟨⟨S5,h5,fun i hi=>(o5 i hi).elim (o34 i) (fun e=>.inr (Nat.le_trans (Nat.le_trans z3 z4) e))⟩,(F3.out.next F4.out o3.out).next F5 o34⟩,R5⟩
open Go.RowKit
theorem coreHolds_any (a b:Int) (w:World):Calls Tryz.prog 137 #[.int .i64 a,.int .i64 b] w fun e w'=>e=.returned (.bool (bits .and .i64 a b == b))/\w'=w:=by
 go_enter Tryz.func137,Tryz.ntmps137
 go_wp2
 go_ret
 exact ⟨rfl,rfl⟩
theorem bits_one {x a:Int}(h:x=0\/x=1\/x=2\/x=3) (ha:a=1\/a=2):(bits .and .i64 x a == a)=(bits .and .i64 x a != 0):=by
 rcases h with rfl | rfl | rfl | rfl <;> rcases ha with rfl | rfl <;> rfl
theorem PLeft.th {w:World}{B:Bk}{S:Nat->Prop}{M:PM}{cs:Array Value}{rv:Nat->Value}{sl:List (Sv×Sv×Value)}(_h:PmAt w B M cs rv sl) (hS:∀ k,S k↔POwn B M.threads.length rv sl k){w':World}{f:PT->PT}{t:Nat}(h':PmAt w' B (M.upd t f) cs rv sl) (F:Fr (fun q=>q=B.g) w w'):PLeft B S (M.upd t f) w w':=
 PLeft.of (M:=M) hS (by simp [PM.upd]) h' (fun k hk=>.inl hk) F (fun k e=>.inl (.inr (.inl e)))
def lentP (bl:Bool) (M:PM) (t:Nat):PM:=if bl=true then M else M.upd t (fun p=>{ p with item:=-1 })
theorem lentR {M:PM}{K:RM}{t:Nat}{u:Th}(R:Rel (only t) M K) (hu:K.threads[t]? = some u) (bl:Bool):Rel (only t) (lentP bl M t) (K.lendsTo t bl):=by
 unfold lentP
 split
 ·exact R.lendsTo rfl hu bl
 ·exact (R.parcel (i:=t) rfl (fun p=>{ p with item:=-1 }) (fun p=>⟨p.tgt,p.pw,-1,p.rt,rfl⟩)).lendsTo rfl hu bl
theorem lentPar {M:PM} {t:Nat} {u:Th} {p:PT} {bl:Bool} (hp:M.threads[t]? = some p) (par:p.pw=u.mw/\p.item=u.item/\p.rt=u.rt/\-1<=u.item/\u.item<=5):∃ p2,(lentP bl M t).threads[t]? = some p2/\p2.wait=p.wait/\Par { u with lends:=bl } p2:=by
 unfold lentP
 cases bl with
 | true=>exact ⟨p,hp,rfl,par.1,by rw [par.2.1];rfl,par.2.2.1,par.2.2.2.1,par.2.2.2.2⟩
 | false=>exact ⟨{ p with item:=-1 },PM.upd_get hp _,rfl,par.1,rfl,par.2.2.1,par.2.2.2.1,par.2.2.2.2⟩
theorem lends_fit {K:RM}(ft:K.Fit) (t:Nat) (bl:Bool):(K.lendsTo t bl).Fit:=ft.upd t _ (fun x hx=>by have f:=ft.th t x hx;exact ⟨f.s0,f.s1,f.r0,f.r1,f.l0,f.l1,f.mw,f.ws,f.win,f.st,f.ot⟩)
theorem sendRest (B:Bk) (S:Nat->Prop) (M:PM) (K:RM) (b t r:Nat) (u c:Th) (p:PT) (w:World) (h:PRep w B S M) (R:Rel (only t) M K) (ft:K.Fit) (nm:K.Num b) (hu:K.threads[t]? = some u) (s1:u.st=1) (hp:M.threads[t]? = some p) (par:Par u p) (hc:K.threads[r]? = some c) (hrt:r≠t) :
  ∃ q,M.threads[r]? = some q/\w.cell? ⟨B.g,r*17+3,none⟩=some (.int .i64 c.st)/\w.cell? ⟨B.g,r*17+12,none⟩=some (.int .i64 q.frm)/\w.cell? ⟨B.g,t*17+14,none⟩=some (.int .i64 u.wait)/\w.cell? ⟨B.x,1,none⟩=some (.slice (some ⟨B.g,0,none⟩) M.threads.length B.c)/\(∀ j,w.frozen? ⟨B.g,j,none⟩=false)/\M.threads.length<=6 /\
   (c.st=3->q.frm=c.frm/\Calls Tryz.prog 134 #[.pointer (some ⟨B.x,0,none⟩),.int .i64 t,.int .i64 r] w fun e w1=>e=.returned (.tuple #[])/\∃ S1:Nat->Prop,(∀ i,S1 i->S i\/w.heap.size<=i)/\Fr S w w1/\Calls Tryz.prog 135 #[.pointer (some ⟨B.x,0,none⟩),.int .i64 t] w1 fun e w2=>e=.returned (.tuple #[])/\KLeft B S none_ (((K.deliver t r).toFirst r).goes 7 t true) w w2) /\
   (Calls Tryz.prog 125 #[.pointer (some ⟨B.x,0,none⟩),.int .i64 t,.int .i64 5] w fun e w1=>e=.returned (.tuple #[])/\KLeft B S none_ (K.over t 5) w w1) /\
   (∀ w0,w0=w.setCell ⟨B.g,t*17+8,none⟩ (.int .i64 r)->Calls Tryz.prog 131 #[.pointer (some ⟨B.g,r*17+16,none⟩),.int .i64 t] w0 fun e w1=>e=.returned (.tuple #[])/\Calls Tryz.prog 136 #[.pointer (some ⟨B.x,0,none⟩),.int .i64 t,.int .i64 2] w1 fun e w2=>e=.returned (.tuple #[])/\KLeft B S none_ (K.waits t 2 r) w w2):=by
 obtain ⟨q,hq,RC⟩:=R.get hc
 have RT:=R.th t u p hu hp
 have tt:=RT.talk (.inr rfl)
 have e0:∀ i,none_ i↔Wo (only t) t i:=fun i=>⟨fun h=>h.elim,fun h=>h.2 h.1⟩
 have hh:=h
 obtain ⟨cs,rv,sl,at_,hS⟩:=h
 obtain ⟨s0,hs0⟩:=at_.sl_get hp
 obtain ⟨sr,hsr⟩:=at_.sl_get hq
 have hrl:=(List.getElem?_eq_some_iff.1 hc).1
 refine ⟨q,hq,?_,?_,?_,(at_.cell 1).trans at_.c1,at_.tfro,R.six ft,fun c3=>?_,?_,fun w0 hw0=>?_⟩
 ·rw [<- RC.st];exact (at_.tcell hq hsr 3 (by omega)).trans rfl
 ·exact (at_.tcell hq hsr 12 (by omega)).trans rfl
 ·rw [<- tt.2.2.1];exact (at_.tcell hp hs0 14 (by omega)).trans rfl
 ·have tc:=RC.talk (.inl (by omega))
  refine ⟨tc.1,(deliver_rel B S (only t) M K b t r u c p false w hh R ft nm hu hc hp (Ne.symm hrt) rfl (.inl c3) par ⟨fun e=>by simp at e,fun e=>by omega⟩).mono ?_⟩
  rintro e w1 ⟨rfl,M1,⟨⟨S1,h1,o1⟩,F1⟩,R1⟩
  have R1':Rel (only t) M1 (K.heard t r false):=R1.acts (fun i=>⟨fun e=>⟨e,fun e'=>hrt (e'.symm.trans e)⟩,fun e=>e.1⟩)
  obtain ⟨F,hF1,hF2⟩:=heard_threads false hu hc
  have hz:(K.heard t r false).threads[t]? = some u:=by rw [hF2,modify_other F (Ne.symm hrt)];exact hu
  have hs7:sending (K.heard t r false).threads+(if u.st=2 then 0 else 1)<=7:=by
   have h1:sending (K.heard t r false).threads<=(K.heard t r false).threads.length:=List.length_filter_le _ _
   have h2:(K.heard t r false).threads.length=K.threads.length:=by rw [hF2];simp
   have:=ft.six
   split <;> omega
  refine ⟨rfl,S1,o1,F1,(goOn_rel 7 (recv_rel 7) B S1 M1 (K.heard t r false) (b+1) t u true w1 h1 R1' (ft.heard t r false) (num_clo.heard t r false nm) hz ⟨fun _=>s1,fun _=>rfl⟩ hs7).mono ?_⟩
  rintro e w2 ⟨rfl,M2,⟨⟨S2,h2,o2⟩,F2⟩,R2⟩
  refine ⟨rfl,M2,⟨⟨S2,h2,fun i hi=>(o2 i hi).elim (o1 i) (fun e=>.inr (Nat.le_trans F1.size e))⟩,F1.next F2 o1⟩,?_⟩
  exact R2
 ·refine (end_rel B S (only t) M K 0 b 5 t u true w hh R ft nm hu (.inr rfl) ⟨fun _=>s1,fun _=>rfl⟩).mono ?_
  rintro e w1 ⟨rfl,L⟩
  exact ⟨rfl,L.acts e0⟩
 ·subst hw0
  have A:=at_.setTh (t:=t) (j:=8) (fun p=>{ p with tgt:=(r:Int) }) (.int .i64 r) hp hs0 (by omega) rfl rfl rfl rfl
  have L1:PLeft B S (M.upd t (fun p=>{ p with tgt:=(r:Int) })) w (w.setCell ⟨B.g,t*17+8,none⟩ (.int .i64 r)):=PLeft.th at_ hS A.1 A.2
  obtain ⟨⟨S1,h1,o1⟩,F1⟩:=L1
  have hq1:(M.upd t (fun p=>{ p with tgt:=(r:Int) })).threads[r]? = some q:=(get_modA (l:=M.threads) (t:=r) hp).trans ((if_neg hrt).trans hq)
  refine (wlLast_left B S1 _ r t q _ h1 hq1 (R.wlL ft hq) (R.wlN hq)).mono ?_
  rintro e w1 ⟨rfl,⟨⟨S2,h2,o2⟩,F2⟩⟩
  refine ⟨rfl,?_⟩
  have em:(M.upd t (fun p=>{ p with tgt:=(r:Int) })).upd r (fun p=>{ p with wl:=q.wl.erase t ++ [t] })=(M.upd t (fun p=>{ p with tgt:=(r:Int) })).upd r (fun p=>{ p with wl:=p.wl.erase t ++ [t] }):=by
   have em2:=modify_at (f:=fun p:PT=>{ p with wl:=q.wl.erase t ++ [t] }) (h:=fun p:PT=>{ p with wl:=p.wl.erase t ++ [t] }) hq1 rfl
   exact congrArg (fun l=>({ M.upd t (fun p=>{ p with tgt:=(r:Int) }) with threads:=l }:PM)) em2
  rw [em] at h2
  obtain ⟨rr,hrr,h4,er⟩:=R.rowN ft hu hp
  have hp2:((M.upd t (fun p=>{ p with tgt:=(r:Int) })).upd r (fun p=>{ p with wl:=p.wl.erase t ++ [t] })).threads[t]? = some { p with tgt:=(r:Int) }:=(get_modA (t:=t) hq1).trans ((if_neg (Ne.symm hrt)).trans (PM.upd_get hp _))
  refine (pause_any B S2 _ t _ 2 rr w1 h2 hp2 (by have:=R.six ft;simpa [PM.upd] using this) hrr h4 (R.lnL ft h4) (R.lnN h4)).mono ?_
  rintro e w2 ⟨rfl,⟨⟨S3,h3,o3⟩,F3⟩⟩
  have o12:∀ i,S2 i->S i\/w.heap.size<=i:=fun i hi=>(o2 i hi).elim (o1 i) (fun e=>.inr (Nat.le_trans F1.size e))
  have F12:=F1.next F2 o1
  refine ⟨rfl,_,⟨⟨S3,h3,fun i hi=>(o3 i hi).elim (o12 i) (fun e=>.inr (Nat.le_trans F12.size e))⟩,F12.next F3 o12⟩,?_⟩
  have W:=R.waits2 ft nm hu rfl hp par (r:=r) hrl hrt
  rw [er] at W
  exact W.acts e0
theorem KLeft.from {w wc w':World}{B:Bk}{S:Nat->Prop}{act:Nat->Prop}{K:RM}(F:Fr S w wc) (h:KLeft B S act K wc w'):KLeft B S act K w w':=by
 obtain ⟨M,⟨⟨S',h',o'⟩,F'⟩,R⟩:=h
 exact ⟨M,⟨⟨S',h',fun i hi=>(o' i hi).imp id (fun e=>Nat.le_trans F.size e)⟩,F.trans F'⟩,R⟩
open Go.RowKit
def KR (w:World) (B:Bk) (S:Nat->Prop) (K:RM):Prop:=∃ M,PRep w B S M/\Rel none_ M K
theorem KR.below {w w':World}{B:Bk}{S:Nat->Prop}{K:RM}(h:KR w B S K) (hb:Below w.heap.size w w'):KR w' B S K:=by
 obtain ⟨M,h,R⟩:=h
 exact ⟨M,h.below hb,R⟩
structure MH (w:World) (B:Bk) (S:Nat->Prop) (M:PM) (K:RM) (cs:Array Value) (rv:Nat->Value) (sl:List (Sv×Sv×Value)) (t s n:Nat):Prop where
 m:PmAt w B M cs rv sl
 hS:∀ k,S k↔POwn B M.threads.length rv sl k
 r:Rel none_ M K
 ok:K.Ok n
 cur:K.cur=t
 h:K.home=s
 lt:s < M.sp.toNat
theorem MH.of {w:World}{B:Bk}{S:Nat->Prop}{K:RM}{n:Nat}(h:KR w B S K) (ok:K.Ok n) (hc:¬ K.cur < 0):∃ M cs rv sl t s,MH w B S M K cs rv sl t s n:=by
 obtain ⟨M,⟨cs,rv,sl,m,hS⟩,R⟩:=h
 obtain ⟨t,u,et,hu,_⟩:=K.cur_in hc
 have f:=ok.ft.th t u hu
 obtain ⟨s,hs⟩:=Int.eq_ofNat_of_zero_le f.s0
 have hh:K.home=s:=by unfold RM.home;rw [et,Int.toNat_natCast,hu];exact hs
 exact ⟨M,cs,rv,sl,t,s,m,hS,R,ok,et,hh,by rw [R.sp];have:=f.s1;omega⟩
section
variable {w w':World}{B:Bk}{S:Nat->Prop}{M:PM}{K:RM}{cs:Array Value}{rv:Nat->Value}{sl:List (Sv×Sv×Value)}{t s n:Nat}
theorem MH.rep (h:MH w B S M K cs rv sl t s n):PRep w B S M:=⟨cs,rv,sl,h.m,h.hS⟩
theorem MH.kr (h:MH w B S M K cs rv sl t s n):KR w B S K:=⟨M,h.rep,h.r⟩
theorem MH.below (h:MH w B S M K cs rv sl t s n) (hb:Below w.heap.size w w'):MH w' B S M K cs rv sl t s n:=⟨h.m.below hb,h.hS,h.r,h.ok,h.cur,h.h,h.lt⟩
theorem MH.slot (h:MH w B S M K cs rv sl t s n){k:Nat}(hk:k < 6):w.cell? ⟨B.gs,s*30+k*2,none⟩=some (.int .i64 (pa (findQ K.passes s k)))/\w.cell? ⟨B.gs,s*30+k*2+1,none⟩=some (.int .i64 (pb (findQ K.passes s k))):=by
 have:=h.m.slotC (s:=s) (j:=k) h.lt hk
 rw [h.r.ps] at this
 exact this
theorem MH.page (h:MH w B S M K cs rv sl t s n){k:Nat}(hk:k < 6):w.cell? ⟨B.gs,s*30+12+k*3,none⟩=some (.int .i64 (la (findLf K.leaves s k)))/\w.cell? ⟨B.gs,s*30+12+k*3+1,none⟩=some (.int .i64 (lb (findLf K.leaves s k)))/\w.cell? ⟨B.gs,s*30+12+k*3+2,none⟩=some (lu B.gs (findLf K.leaves s k)):=by
 have:=h.m.pageC (s:=s) (j:=k) h.lt hk
 rw [h.r.lf] at this
 exact this
end
theorem below_any (n b:Int) (w:World):Calls Tryz.prog 149 #[.int .i64 n,.int .i64 b] w fun e w'=>e=.returned (.bool (decide (0<=n/\n < b)))/\w'=w:=by
 by_cases h1:0<=n
 ·have d1:decide (0<=n)=true:=by simpa using h1
  go_enter Tryz.func149,Tryz.ntmps149
  go_wp2
  go_ret
  exact ⟨by simp [h1],rfl⟩
 ·have d1:decide (0<=n)=false:=by simpa using h1
  go_enter Tryz.func149,Tryz.ntmps149
  go_wp2
  go_ret
  exact ⟨by simp,rfl⟩
theorem pickP_no (g o:Nat) (t:Int) (w:World) (h:¬ (0<=t/\t < 6)) :
  Calls Tryz.prog 168 #[.slice (some ⟨g,o,none⟩) 6 6,.int .i64 t] w fun e w'=>e=.returned (.tuple #[.pointer none,.iface 160 (.agg #[.int .i64 3])])/\w'=w:=by
 have d:decide (0<=t/\t < 6)=false:=by simpa using h
 go_enter Tryz.func168,Tryz.ntmps168
 go_wp2_with (go_at_call 149;refine (below_any _ _ _).mono ?_;rintro e w' ⟨rfl,rfl⟩;rw [d])
 go_ret2
 exact ⟨rfl,rfl⟩
theorem pickP_yes (g o t:Nat) (w:World) (h:t < 6) :
  Calls Tryz.prog 168 #[.slice (some ⟨g,o,none⟩) 6 6,.int .i64 t] w fun e w'=>e=.returned (.tuple #[.pointer (some ⟨g,o+t*2,none⟩),.nilIface])/\w'=w:=by
 have d:decide (0<=(t:Int)/\(t:Int) < 6)=true:=by simp;omega
 have tm:(t:Int) < 6:=by omega
 go_enter Tryz.func168,Tryz.ntmps168
 go_wp2_with (go_at_call 149;refine (below_any _ _ _).mono ?_;rintro e w' ⟨rfl,rfl⟩;rw [d])
 go_ret2
 exact ⟨rfl,rfl⟩
theorem pickL_no (g o:Nat) (t:Int) (w:World) (h:¬ (0<=t/\t < 6)) :
  Calls Tryz.prog 169 #[.slice (some ⟨g,o,none⟩) 6 6,.int .i64 t] w fun e w'=>e=.returned (.tuple #[.pointer none,.iface 160 (.agg #[.int .i64 3])])/\w'=w:=by
 have d:decide (0<=t/\t < 6)=false:=by simpa using h
 go_enter Tryz.func169,Tryz.ntmps169
 go_wp2_with (go_at_call 149;refine (below_any _ _ _).mono ?_;rintro e w' ⟨rfl,rfl⟩;rw [d])
 go_ret2
 exact ⟨rfl,rfl⟩
theorem pickL_yes (g o t:Nat) (w:World) (h:t < 6) :
  Calls Tryz.prog 169 #[.slice (some ⟨g,o,none⟩) 6 6,.int .i64 t] w fun e w'=>e=.returned (.tuple #[.pointer (some ⟨g,o+t*3,none⟩),.nilIface])/\w'=w:=by
 have d:decide (0<=(t:Int)/\(t:Int) < 6)=true:=by simp;omega
 have tm:(t:Int) < 6:=by omega
 go_enter Tryz.func169,Tryz.ntmps169
 go_wp2_with (go_at_call 149;refine (below_any _ _ _).mono ?_;rintro e w' ⟨rfl,rfl⟩;rw [d])
 go_ret2
 exact ⟨rfl,rfl⟩
abbrev E2:Value:=.iface 160 (.agg #[.int .i64 2])
theorem e2_ne (w:World):(binOp .neq 114 E2 .nilIface).run Tryz.prog w=.ok (.bool true) w:=rfl
abbrev E3:Value:=.iface 160 (.agg #[.int .i64 3])
theorem e3_ne (w:World):(binOp .neq 114 E3 .nilIface).run Tryz.prog w=.ok (.bool true) w:=rfl
section
variable (B:Bk) (S:Nat->Prop) (K:RM) (w:World)
theorem home_no (h:KR w B S K) (ft:K.Fit) (hc:K.cur < 0):Calls Tryz.prog 167 #[.pointer (some ⟨B.x,0,none⟩)] w fun e w'=>e=.returned (.tuple #[.pointer none,E2])/\Below w.heap.size w w':=by
 obtain ⟨M,hm,R⟩:=h
 have HC:=hid (caller_no B S M K w hm R ft hc)
 have hne:=e2_ne
 clear hm R ft hc
 go_enter Tryz.func167,Tryz.ntmps167
 go_wp2_with (go_at_call 82;refine HC.out.mono ?_;rintro e w2 ⟨rfl,rfl⟩)
 go_ret2
 exact ⟨rfl,Below.refl _ _⟩
theorem slot_none (h:KR w B S K) (ft:K.Fit) (hc:K.cur < 0) (k:Int):Calls Tryz.prog 139 #[.pointer (some ⟨B.x,0,none⟩),.int .i64 k] w fun e w'=>e=.returned (.tuple #[.pointer none,E2])/\Below w.heap.size w w':=by
 have HC:=hid (home_no B S K w h ft hc)
 have hne:=e2_ne
 clear h ft hc
 go_enter Tryz.func139,Tryz.ntmps139
 go_wp2_with (go_at_call 167;refine HC.out.mono ?_;rintro e w2 ⟨rfl,B2⟩;replace B2:=hid B2)
 go_ret2
 exact ⟨rfl,B2.out⟩
theorem page_none (h:KR w B S K) (ft:K.Fit) (hc:K.cur < 0) (k:Int):Calls Tryz.prog 143 #[.pointer (some ⟨B.x,0,none⟩),.int .i64 k] w fun e w'=>e=.returned (.tuple #[.pointer none,E2])/\Below w.heap.size w w':=by
 have HC:=hid (home_no B S K w h ft hc)
 have hne:=e2_ne
 clear h ft hc
 go_enter Tryz.func143,Tryz.ntmps143
 go_wp2_with (go_at_call 167;refine HC.out.mono ?_;rintro e w2 ⟨rfl,B2⟩;replace B2:=hid B2)
 go_ret2
 exact ⟨rfl,B2.out⟩
theorem cell_none (h:KR w B S K) (ft:K.Fit) (hc:K.cur < 0) (k e r:Int):Calls Tryz.prog 118 #[.pointer (some ⟨B.x,0,none⟩),.int .i64 k,.int .i64 e,.int .i64 r] w fun e w'=>e=.returned (.tuple #[.pointer none,E2])/\Below w.heap.size w w':=by
 have HC:=hid (page_none B S K w h ft hc k)
 have hne:=e2_ne
 clear h ft hc
 go_enter Tryz.func118,Tryz.ntmps118
 go_wp2_with (go_at_call 143;refine HC.out.mono ?_;rintro e w2 ⟨rfl,B2⟩;replace B2:=hid B2)
 go_ret2
 exact ⟨rfl,B2.out⟩
theorem leaf_none (h:KR w B S K) (ft:K.Fit) (hc:K.cur < 0) (k:Int):Calls Tryz.prog 90 #[.pointer (some ⟨B.x,0,none⟩),.int .i64 k] w fun e w'=>e=.returned (.tuple #[.pointer none,E2])/\Below w.heap.size w w':=by
 have HC:=hid (page_none B S K w h ft hc k)
 have hne:=e2_ne
 clear h ft hc
 go_enter Tryz.func90,Tryz.ntmps90
 go_wp2_with (go_at_call 143;refine HC.out.mono ?_;rintro e w2 ⟨rfl,B2⟩;replace B2:=hid B2)
 go_ret2
 exact ⟨rfl,B2.out⟩
end
section
variable (B:Bk) (S:Nat->Prop) (M:PM) (K:RM) (cs:Array Value) (rv:Nat->Value) (sl:List (Sv×Sv×Value)) (t s n:Nat) (w:World)
theorem home_any (h:MH w B S M K cs rv sl t s n):Calls Tryz.prog 167 #[.pointer (some ⟨B.x,0,none⟩)] w fun e w'=>e=.returned (.tuple #[.pointer (some ⟨B.gs,s*30,none⟩),.nilIface])/\Below w.heap.size w w':=by
 have C:=caller_yes B S M K t w h.rep h.r h.ok.ft h.cur
 obtain ⟨j,u,e,hu,_⟩:=K.cur_in (by have:=h.cur;omega)
 have ej:j=t:=by have:=h.cur;omega
 subst ej
 obtain ⟨p,hp,RT⟩:=h.r.get hu
 have hus:p.sp=s:=by
  have:=h.h
  unfold RM.home at this
  rw [h.cur,Int.toNat_natCast,hu] at this
  rw [RT.sp];exact this
 obtain ⟨s0,hs0⟩:=h.m.sl_get hp
 have hc6:=(h.m.cell 6).trans h.m.c6
 have hc1:=(h.m.cell 1).trans h.m.c1
 have htl:=(List.getElem?_eq_some_iff.1 hp).1
 have k0:=(h.m.tcell hp hs0 0 (by omega)).trans (show (prow p s0)[0]? = some (.int .i64 p.sp) from rfl)
 rw [hus] at k0
 simp only [Nat.add_zero] at k0
 have h6:=h.r.six h.ok.ft
 have hlt:=h.lt
 generalize M.threads.length=m at *
 generalize M.sp.toNat=m2 at *
 have ht':(j:Int) < (m:Int):=by omega
 have hs':(s:Int) < (m2:Int):=by omega
 have HC:=hid C
 clear C h hu hus hp RT hs0 e
 go_enter Tryz.func167,Tryz.ntmps167
 go_wp2_with (go_at_call 82;refine HC.out.mono ?_;rintro e w2 ⟨rfl,rfl⟩)
 go_quiet (fail)
 go_wp2
 go_ret2
 exact ⟨rfl,below_drewN (Below.refl _ _) _⟩
theorem slot_yes (h:MH w B S M K cs rv sl t s n) (k:Nat) (hk:k < 6) :
  Calls Tryz.prog 139 #[.pointer (some ⟨B.x,0,none⟩),.int .i64 k] w fun e w'=>e=.returned (.tuple #[.pointer (some ⟨B.gs,s*30+k*2,none⟩),.nilIface])/\Below w.heap.size w w':=by
 have HC:=hid (home_any B S M K cs rv sl t s n w h)
 clear h
 go_enter Tryz.func139,Tryz.ntmps139
 go_wp2_with (first
  | (go_at_call 167;refine HC.out.mono ?_;rintro e w2 ⟨rfl,B2⟩;replace B2:=hid B2)
  | (go_at_call 168;refine (pickP_yes B.gs (s*30) k _ hk).mono ?_;rintro e w3 ⟨rfl,rfl⟩))
 go_ret2
 exact ⟨rfl,B2.out⟩
theorem slot_no (h:MH w B S M K cs rv sl t s n) (k:Int) (hk:¬ (0<=k/\k < 6)) :
  Calls Tryz.prog 139 #[.pointer (some ⟨B.x,0,none⟩),.int .i64 k] w fun e w'=>e=.returned (.tuple #[.pointer none,E3])/\Below w.heap.size w w':=by
 have HC:=hid (home_any B S M K cs rv sl t s n w h)
 have HK:=hid hk
 clear h hk
 go_enter Tryz.func139,Tryz.ntmps139
 go_wp2_with (first
  | (go_at_call 167;refine HC.out.mono ?_;rintro e w2 ⟨rfl,B2⟩;replace B2:=hid B2)
  | (go_at_call 168;refine (pickP_no B.gs (s*30) k _ HK.out).mono ?_;rintro e w3 ⟨rfl,rfl⟩))
 go_ret2
 exact ⟨rfl,B2.out⟩
theorem page_yes (h:MH w B S M K cs rv sl t s n) (k:Nat) (hk:k < 6) :
  Calls Tryz.prog 143 #[.pointer (some ⟨B.x,0,none⟩),.int .i64 k] w fun e w'=>e=.returned (.tuple #[.pointer (some ⟨B.gs,s*30+12+k*3,none⟩),.nilIface])/\Below w.heap.size w w':=by
 have HC:=hid (home_any B S M K cs rv sl t s n w h)
 clear h
 go_enter Tryz.func143,Tryz.ntmps143
 go_wp2_with (first
  | (go_at_call 167;refine HC.out.mono ?_;rintro e w2 ⟨rfl,B2⟩;replace B2:=hid B2)
  | (go_at_call 169;refine (pickL_yes B.gs (s*30+12) k _ hk).mono ?_;rintro e w3 ⟨rfl,rfl⟩))
 go_ret2
 exact ⟨rfl,B2.out⟩
theorem page_no (h:MH w B S M K cs rv sl t s n) (k:Int) (hk:¬ (0<=k/\k < 6)) :
  Calls Tryz.prog 143 #[.pointer (some ⟨B.x,0,none⟩),.int .i64 k] w fun e w'=>e=.returned (.tuple #[.pointer none,E3])/\Below w.heap.size w w':=by
 have HC:=hid (home_any B S M K cs rv sl t s n w h)
 have HK:=hid hk
 clear h hk
 go_enter Tryz.func143,Tryz.ntmps143
 go_wp2_with (first
  | (go_at_call 167;refine HC.out.mono ?_;rintro e w2 ⟨rfl,B2⟩;replace B2:=hid B2)
  | (go_at_call 169;refine (pickL_no B.gs (s*30+12) k _ HK.out).mono ?_;rintro e w3 ⟨rfl,rfl⟩))
 go_ret2
 exact ⟨rfl,B2.out⟩
end
open Go.RowKit
def Ans (cd:Int) (e:Ending) (w w':World):Prop:=(cd=0/\e=.returned .nilIface)\/(∃ st,e=.returned (.iface 166 (.agg #[.string st,.iface 160 (.agg #[.int .i64 cd])]))/\Below w.heap.size w w')
theorem findLf_mem {L:List Lf}{s n:Int}{l:Lf}(h:findLf L s n=some l):l∈L/\l.sp=s/\l.pg=n:=by
 unfold findLf at h
 refine ⟨List.mem_of_find?_eq_some h,?_⟩
 have:=List.find?_some h
 simpa using this
theorem lb_rt {L:List Lf}(h:∀ l∈L,okLf l) (s n:Int):lb (findLf L s n)=0\/lb (findLf L s n)=1\/lb (findLf L s n)=2\/lb (findLf L s n)=3:=by
 rcases hf:findLf L s n with _ | l
 ·exact .inl rfl
 ·have:=h l (findLf_mem hf).1
  unfold okLf at this
  simp only [lb]
  omega
theorem KR.left {w w':World}{B:Bk}{S:Nat->Prop}{K:RM}(h:KR w B S K) (hb:Below w.heap.size w w'):KLeft B S none_ K w w':=by
 obtain ⟨M,h,R⟩:=h
 exact ⟨M,PLeft.below h hb,R⟩
section
variable {w w':World}{B:Bk}{S:Nat->Prop}{M:PM}{K:RM}{cs:Array Value}{rv:Nat->Value}{sl:List (Sv×Sv×Value)}{t s n:Nat}
theorem PmAt.setFr (h:PmAt w B M cs rv sl) (j:Nat) (hj:j < 32) (a:Int):PmAt (w.setCell ⟨B.x,7+j,none⟩ (.int .i64 a)) B { M with fr:=frSet M.fr j a } (cs.setIfInBounds (7+j) (.int .i64 a)) rv sl/\Fr (fun k=>k=B.x) w (w.setCell ⟨B.x,7+j,none⟩ (.int .i64 a)):=by
 have F:Fr (fun k=>k=B.x) w (w.setCell ⟨B.x,7+j,none⟩ (.int .i64 a)):=(Fr.refl (fun k=>k=B.x) w).setCell (p:=⟨B.x,7+j,none⟩) (fun _=>rfl) _
 refine ⟨⟨heap_setCell_same w B.x (7+j) cs B.ty _ h.blk,by simpa using h.size,?_,?_,?_,?_,fun i hi=>?_,h.ln,h.th.kept F (fun k hk e=>by simp [Value.ownBlock] at hk;subst hk;exact h.n1.1 e),h.sp.kept F (fun k hk e=>by simp [Value.ownBlock] at hk;subst hk;exact h.n1.2.1 e),fun i hi=>(h.li i hi).kept F (fun k hk e=>(h.n2 i hi k hk).1 e),fun i p u hp hu=>?_,h.n1,h.n2,h.n3⟩,F⟩
 ·rw [Array.getElem?_setIfInBounds_ne (by omega)];exact h.c0
 ·rw [Array.getElem?_setIfInBounds_ne (by omega)];exact h.c1
 ·intro r hr;rw [Array.getElem?_setIfInBounds_ne (by omega)];exact h.row r hr
 ·rw [Array.getElem?_setIfInBounds_ne (by omega)];exact h.c6
 ·by_cases e:i=j
  ·subst e
   rw [Array.getElem?_setIfInBounds_self_of_lt (by have:=h.size;omega)]
   simp [frSet]
  ·rw [Array.getElem?_setIfInBounds_ne (by omega),h.fr i hi]
   simp [frSet,e]
 ·have hw:=h.wd i p u hp hu
  exact ⟨hw.1.kept F (fun k _ hk=>.inl (fun e=>hk (.inl e))) (fun _ _ h=>h),hw.2.kept F (fun k _ hk=>.inl (fun e=>hk (.inl e))) (fun _ _ h=>h)⟩
end
section
variable (B:Bk) (S:Nat->Prop) (M:PM) (K:RM) (cs:Array Value) (rv:Nat->Value) (sl:List (Sv×Sv×Value)) (t s n:Nat) (w:World)
theorem cell_ok (h:MH w B S M K cs rv sl t s n) (k e f:Nat) (hk:k < 6) (he:e < 4) (hf8:f < 8) (rt:Int) (hf:la (findLf K.leaves s k)=f) (hb:(bits .and .i64 (lb (findLf K.leaves s k)) rt == rt)=true) :
  Calls Tryz.prog 118 #[.pointer (some ⟨B.x,0,none⟩),.int .i64 k,.int .i64 e,.int .i64 rt] w fun e' w'=>e'=.returned (.tuple #[.pointer (some ⟨B.x,7+f*4+e,none⟩),.nilIface])/\Below w.heap.size w w':=by
 have HP:=hid (page_yes B S M K cs rv sl t s n w h k hk)
 have d1:decide (0<=(e:Int)/\(e:Int) < 4)=true:=by simp;omega
 have e4:(e:Int) < 4:=by omega
 have f8:(f:Int) < 8:=by omega
 have CC:Hid (∀ w2,Below w.heap.size w w2->w2.cell? ⟨B.gs,s*30+12+k*3,none⟩=some (.int .i64 f)/\w2.cell? ⟨B.gs,s*30+12+k*3+1,none⟩=some (.int .i64 (lb (findLf K.leaves s k)))):=fun w2 b=>by
  have:=(h.below b).page hk
  rw [hf] at this
  exact ⟨this.1,this.2.1⟩
 generalize lb (findLf K.leaves s k)=r at *
 clear h hf
 go_enter Tryz.func118,Tryz.ntmps118
 go_wp2_with (first
  | (go_at_call 143;refine HP.out.mono ?_;rintro e' w2 ⟨rfl,B2⟩;have cc:=CC.out w2 B2;have c1:=cc.1;have c2:=cc.2;clear cc;replace B2:=hid B2)
  | (go_at_call 149;refine (below_any _ _ _).mono ?_;rintro e' w3 ⟨rfl,rfl⟩;rw [d1])
  | (go_at_call 137;refine (coreHolds_any _ _ _).mono ?_;rintro e' w3 ⟨rfl,rfl⟩;rw [hb]))
 go_quiet (fail)
 go_wp2
 go_ret2
 exact ⟨rfl,below_drewN B2.out _⟩
theorem cell_fault (h:MH w B S M K cs rv sl t s n) (k e:Nat) (hk:k < 6) (he:e < 4) (rt:Int) (hb:(bits .and .i64 (lb (findLf K.leaves s k)) rt == rt)=false) :
  Calls Tryz.prog 118 #[.pointer (some ⟨B.x,0,none⟩),.int .i64 k,.int .i64 e,.int .i64 rt] w fun e' w'=>e'=.returned (.tuple #[.pointer none,.iface 160 (.agg #[.int .i64 7])])/\Below w.heap.size w w':=by
 have HP:=hid (page_yes B S M K cs rv sl t s n w h k hk)
 have d1:decide (0<=(e:Int)/\(e:Int) < 4)=true:=by simp;omega
 have CC:Hid (∀ w2,Below w.heap.size w w2->w2.cell? ⟨B.gs,s*30+12+k*3+1,none⟩=some (.int .i64 (lb (findLf K.leaves s k)))):=fun w2 b=>((h.below b).page hk).2.1
 generalize lb (findLf K.leaves s k)=r at *
 clear h
 go_enter Tryz.func118,Tryz.ntmps118
 go_wp2_with (first
  | (go_at_call 143;refine HP.out.mono ?_;rintro e' w2 ⟨rfl,B2⟩;have c2:=CC.out w2 B2;replace B2:=hid B2)
  | (go_at_call 149;refine (below_any _ _ _).mono ?_;rintro e' w3 ⟨rfl,rfl⟩;rw [d1])
  | (go_at_call 137;refine (coreHolds_any _ _ _).mono ?_;rintro e' w3 ⟨rfl,rfl⟩;rw [hb]))
 go_ret2
 exact ⟨rfl,B2.out⟩
theorem cell_cell (h:MH w B S M K cs rv sl t s n) (k:Nat) (e:Int) (hk:k < 6) (he:¬ (0<=e/\e < 4)) (rt:Int) :
  Calls Tryz.prog 118 #[.pointer (some ⟨B.x,0,none⟩),.int .i64 k,.int .i64 e,.int .i64 rt] w fun e' w'=>e'=.returned (.tuple #[.pointer none,E3])/\Below w.heap.size w w':=by
 have HP:=hid (page_yes B S M K cs rv sl t s n w h k hk)
 have d1:decide (0<=e/\e < 4)=false:=by simpa using he
 clear h he
 go_enter Tryz.func118,Tryz.ntmps118
 go_wp2_with (first
  | (go_at_call 143;refine HP.out.mono ?_;rintro e' w2 ⟨rfl,B2⟩;replace B2:=hid B2)
  | (go_at_call 149;refine (below_any _ _ _).mono ?_;rintro e' w3 ⟨rfl,rfl⟩;rw [d1]))
 go_ret2
 exact ⟨rfl,B2.out⟩
theorem cell_page (h:MH w B S M K cs rv sl t s n) (k e:Int) (hk:¬ (0<=k/\k < 6)) (rt:Int) :
  Calls Tryz.prog 118 #[.pointer (some ⟨B.x,0,none⟩),.int .i64 k,.int .i64 e,.int .i64 rt] w fun e' w'=>e'=.returned (.tuple #[.pointer none,E3])/\Below w.heap.size w w':=by
 have HP:=hid (page_no B S M K cs rv sl t s n w h k hk)
 have hne:=e3_ne
 clear h hk
 go_enter Tryz.func118,Tryz.ntmps118
 go_wp2_with (go_at_call 143;refine HP.out.mono ?_;rintro e' w2 ⟨rfl,B2⟩;replace B2:=hid B2)
 go_ret2
 exact ⟨rfl,B2.out⟩
end
theorem cell_any (B:Bk) (S:Nat->Prop) (K:RM) (n:Nat) (w:World) (h:KR w B S K) (ok:K.Ok n) (pg ce rt:Int) (hrt:rt=1\/rt=2) :
  Calls Tryz.prog 118 #[.pointer (some ⟨B.x,0,none⟩),.int .i64 pg,.int .i64 ce,.int .i64 rt] w fun e' w'=>Below w.heap.size w w'/\((∃ f e:Nat,f < 8/\e < 4/\ce=e/\K.touch pg ce rt=((f:Int),0)/\e'=.returned (.tuple #[.pointer (some ⟨B.x,7+f*4+e,none⟩),.nilIface]))\/(∃ cd,cd≠0/\K.touch pg ce rt=(0,cd)/\e'=.returned (.tuple #[.pointer none,.iface 160 (.agg #[.int .i64 cd])]))):=by
 by_cases hc:K.cur < 0
 ·refine (cell_none B S K w h ok.ft hc pg ce rt).mono ?_
  rintro e' w' ⟨rfl,b⟩
  exact ⟨b,.inr ⟨2,by omega,by unfold RM.touch;rw [if_pos hc],rfl⟩⟩
 obtain ⟨M,cs,rv,sl,t,s,h⟩:=MH.of h ok hc
 by_cases hp:0<=pg/\pg < 6
 ·obtain ⟨k,rfl⟩:=Int.eq_ofNat_of_zero_le hp.1
  have hk:k < 6:=by omega
  by_cases he:0<=ce/\ce < 4
  ·obtain ⟨e,rfl⟩:=Int.eq_ofNat_of_zero_le he.1
   have he4:e < 4:=by omega
   have i1:inI (k:Int) 0 5=true/\inI (e:Int) 0 3=true:=⟨inI_true.2 (by omega),inI_true.2 (by omega)⟩
   have T:K.touch k e rt=match findLf K.leaves s k with | some p=>if bits .and .i64 p.rt rt=0 then (0,7) else (p.fr,0) | none=>(0,7):=by unfold RM.touch;rw [if_neg hc,if_pos i1,h.h];rfl
   have hb:=bits_one (lb_rt ok.lf s k) hrt
   rcases hf:findLf K.leaves s k with _ | p
   ·rw [hf] at T
    refine (cell_fault B S M K cs rv sl t s n w h k e hk he4 rt (by rw [hf];rcases hrt with rfl | rfl <;> rfl)).mono ?_
    rintro e' w' ⟨rfl,B⟩
    exact ⟨B,.inr ⟨7,by omega,T,rfl⟩⟩
   ·rw [hf] at T
    have ho:=ok.lf p (findLf_mem hf).1
    unfold okLf at ho
    obtain ⟨f,hfe⟩:=Int.eq_ofNat_of_zero_le ho.1
    by_cases hh:bits .and .i64 p.rt rt=0
    ·simp only [hh,if_true] at T
     refine (cell_fault B S M K cs rv sl t s n w h k e hk he4 rt (by rw [hb,hf];simp [lb,hh])).mono ?_
     rintro e' w' ⟨rfl,B⟩
     exact ⟨B,.inr ⟨7,by omega,T,rfl⟩⟩
    ·simp only [hh,if_false] at T
     refine (cell_ok B S M K cs rv sl t s n w h k e f hk he4 (by omega) rt (by rw [hf];exact hfe) (by rw [hb,hf];simp [lb,hh])).mono ?_
     rintro e' w' ⟨rfl,B⟩
     exact ⟨B,.inl ⟨f,e,by omega,he4,rfl,by rw [T,hfe],rfl⟩⟩
  ·have T:K.touch k ce rt=(0,3):=by
    unfold RM.touch;rw [if_neg hc,if_neg];intro hc;have:=inI_true.1 hc.2;omega
   refine (cell_cell B S M K cs rv sl t s n w h k ce hk he rt).mono ?_
   rintro e' w' ⟨rfl,B⟩
   exact ⟨B,.inr ⟨3,by omega,T,rfl⟩⟩
 ·have T:K.touch pg ce rt=(0,3):=by
   unfold RM.touch;rw [if_neg hc,if_neg];intro hc;have:=inI_true.1 hc.1;omega
  refine (cell_page B S M K cs rv sl t s n w h pg ce hp rt).mono ?_
  rintro e' w' ⟨rfl,B⟩
  exact ⟨B,.inr ⟨3,by omega,T,rfl⟩⟩
section
variable (B:Bk) (S:Nat->Prop) (K:RM) (n:Nat) (w:World)
theorem mLoad_any (h:KR w B S K) (ok:K.Ok n) (pg ce:Int) :
  Calls Tryz.prog 76 #[.pointer (some ⟨B.x,0,none⟩),.int .i64 pg,.int .i64 ce] w fun e w'=>Below w.heap.size w w'/\((∃ v,K.load pg ce=(v,0)/\e=.returned (.tuple #[.int .i64 v,.nilIface]))\/(∃ cd st,K.load pg ce=(0,cd)/\e=.returned (.tuple #[.int .i64 0,.iface 166 (.agg #[.string st,.iface 160 (.agg #[.int .i64 cd])])]))):=by
 have HC:=hid (cell_any B S K n w h ok pg ce 1 (.inl rfl))
 have HH:=hid h
 clear h ok
 go_enter Tryz.func76,Tryz.ntmps76
 go_wp2_with fail
 refine HC.out.mono ?_
 rintro e w2 ⟨B2,⟨f,e2,hf8,he4,rfl,T,rfl⟩ | ⟨cd,hcd,T,rfl⟩⟩
 ·obtain ⟨M,⟨cs,rv,sl,m,_⟩,R⟩:=HH.out.below B2
  have hc:w2.cell? ⟨B.x,7+f*4+e2,none⟩=some (.int .i64 (K.fr (f*4+e2))):=by
   have:=(m.cell (7+(f*4+e2))).trans (m.fr (f*4+e2) (by omega))
   rw [<- Nat.add_assoc,R.fr] at this
   exact this
  have E:=hid (show K.load pg e2=(K.fr (f*4+e2),0) by simp [RM.load,T])
  have HB:=hid B2
  clear T B2 m R
  go_wp2
  go_ret2
  exact ⟨HB.out,.inl ⟨_,E.out,rfl⟩⟩
 ·have E:=hid (show K.load pg ce=(0,cd) by simp [RM.load,T,hcd])
  have HB:=hid B2
  clear T B2 hcd
  go_wp2
  go_ret2
  exact ⟨HB.out,.inr ⟨cd,_,E.out,rfl⟩⟩
theorem mStore_any (h:KR w B S K) (ok:K.Ok n) (pg ce v:Int) :
  Calls Tryz.prog 74 #[.pointer (some ⟨B.x,0,none⟩),.int .i64 pg,.int .i64 ce,.int .i64 v] w fun e w'=>Ans (K.touch pg ce 2).2 e w w'/\KLeft B S none_ (K.stored pg ce v) w w':=by
 have HC:=hid (cell_any B S K n w h ok pg ce 2 (.inr rfl))
 have HH:=hid h
 clear h ok
 go_enter Tryz.func74,Tryz.ntmps74
 go_wp2_with fail
 refine HC.out.mono ?_
 rintro e w2 ⟨B2,⟨f,e2,hf8,he4,rfl,T,rfl⟩ | ⟨cd,hcd,T,rfl⟩⟩
 ·obtain ⟨M,⟨cs,rv,sl,hm,hS⟩,R⟩:=HH.out.below B2
  have hc:w2.cell? ⟨B.x,7+f*4+e2,none⟩=some (.int .i64 (M.fr (f*4+e2))):=by
   have:=(hm.cell (7+(f*4+e2))).trans (hm.fr (f*4+e2) (by omega))
   rw [<- Nat.add_assoc] at this
   exact this
  have hf:=hm.fro (7+f*4+e2)
  have ST:=hm.setFr (f*4+e2) (by omega) v
  rw [<- Nat.add_assoc] at ST
  have E1:=hid (show (K.touch pg e2 2).2=0 by rw [T])
  have E2:=hid (show K.stored pg e2 v={ K with fr:=frSet K.fr (f*4+e2) v } by simp [RM.stored,T])
  have RR:Rel none_ { M with fr:=frSet M.fr (f*4+e2) v } { K with fr:=frSet K.fr (f*4+e2) v }:=⟨R.len,R.th,R.rows,R.wl,R.sp,R.ps,R.lf,by show frSet M.fr _ _=frSet K.fr _ _;rw [R.fr],R.cl⟩
  have HB:=hid (And.intro B2 (And.intro ST (And.intro RR hS)))
  clear T B2 hm ST RR R hS
  go_wp2
  go_ret
  rw [E2.out]
  obtain ⟨b,ST,RR,hS⟩:=HB.out
  exact ⟨.inl ⟨E1.out,rfl⟩,_,⟨⟨S,⟨_,rv,sl,ST.1,hS⟩,fun _ h=>.inl h⟩,(Fr.of_below b _).trans (ST.2.mono (fun k _ e=>(hS k).2 (.inl (.inl e))))⟩,RR⟩
 ·have E1:=hid (show (K.touch pg ce 2).2=cd by rw [T])
  have E2:=hid (show K.stored pg ce v=K by simp [RM.stored,T,hcd])
  have HB:=hid B2
  clear T B2 hcd
  go_wp2
  go_ret
  rw [E1.out,E2.out]
  exact ⟨.inr ⟨_,rfl,HB.out⟩,HH.out.left HB.out⟩
end
end Go.Proofs.YteejjgbeknnmeaaGreatDoor
