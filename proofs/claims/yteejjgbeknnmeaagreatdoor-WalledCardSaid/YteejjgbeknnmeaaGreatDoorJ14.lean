import Derived.Test.YteejjgbeknnmeaaGreatDoorJ13
import Derived.Deep.QuietTactic
import Derived.BigQuiet
import Derived.BigRegion
import Derived.Test.YteejjgbeknnmeaaGreatDoorJ15
set_option maxRecDepth 100000
set_option maxHeartbeats 20000000
namespace Go.Proofs.YteejjgbeknnmeaaGreatDoor
open Go.RowKit
theorem row_any (B:Bk) (M:PM) (cs:Array Value) (rv:Nat->Value) (sl:List (Sv×Sv×Value)) (t:Nat) (p:PT) (w:World) (h:PmAt w B M cs rv sl) (hp:M.threads[t]? = some p) (_h6:M.threads.length<=6) (r:Nat) (hr:p.row=r) (h4:r < 4) :
  Calls Tryz.prog 130 #[.pointer (some ⟨B.x,0,none⟩),.int .i64 t] w fun e w'=>e=.returned (.pointer (some ⟨B.x,2+r,none⟩))/\Below w.heap.size w w':=by
 have htl:=(List.getElem?_eq_some_iff.1 hp).1
 obtain ⟨s,hs⟩:=h.sl_get hp
 have hc1:=(h.cell 1).trans h.c1
 have k1:=(h.tcell hp hs 1 (by omega)).trans (show (prow p s)[1]? = some (.int .i64 p.row) from rfl)
 rw [hr] at k1
 generalize hm:M.threads.length=m at *
 have ht':(t:Int) < (m:Int):=by omega
 have hr':(r:Int) < 4:=by omega
 clear h hp hs hr hm
 go_enter Tryz.func130,Tryz.ntmps130
 go_wp2
 go_quiet (fail)
 go_wp2
 go_ret
 exact ⟨rfl,below_drewN (Below.refl _ _) _⟩
theorem over_at (B:Bk) (M:PM) (cs:Array Value) (rv:Nat->Value) (sl:List (Sv×Sv×Value)) (t:Nat) (p:PT) (s:Sv×Sv×Value) (st0 code who got:Int) (u:Sv) (ws:List Int) (w:World) (h:PmAt w B M cs rv sl) (hp:M.threads[t]? = some p) (hs:sl[t]? = some s) (_h6:M.threads.length<=6) (hu:PWd w B M.threads.length rv sl u ws) :
  Calls Tryz.prog 161 #[.pointer (some ⟨B.x,0,none⟩),.int .i64 t,.agg #[.int .i64 st0,.int .i64 code,.int .i64 who,.slice u.a u.n u.c,.int .i64 got]] w fun e w'=>e=.returned (.tuple #[])/\PmAt w' B (M.upd t (overP code who ws got)) cs rv (sl.set t (u,Sv.nil,s.2.2))/\Fr (fun q=>q=B.g) w w':=by
 have htl:=(List.getElem?_eq_some_iff.1 hp).1
 have hc1:=(h.cell 1).trans h.c1
 have R:=h.trange hp hs
 have g3:=R 3 (.int .i64 p.st) rfl
 have g4:=R 4 (.int .i64 p.code) rfl
 have g5:=R 5 (.int .i64 p.who) rfl
 have g6:=R 6 (.slice s.1.a s.1.n s.1.c) rfl
 have g7:=R 7 (.int .i64 p.got) rfl
 have g8:=R 8 (.int .i64 p.tgt) rfl
 have g9:=R 9 (.slice s.2.1.a s.2.1.n s.2.1.c) rfl
 have g10:=R 10 (.int .i64 p.item) rfl
 have g11:=R 11 (.int .i64 p.rt) rfl
 have g12:=R 12 (.int .i64 p.frm) rfl
 have g13:=R 13 (.int .i64 p.win) rfl
 have g14:=R 14 (.int .i64 p.wait) rfl
 have g15:=R 15 (.int .u64 p.time) rfl
 have fg:=h.tfro
 have lx:=h.lx
 have lg:=h.lg
 have hgx:B.g≠B.x:=h.n1.1
 have U:=h.run hp hs 3 [.int .i64 1,.int .i64 code,.int .i64 who,.slice u.a u.n u.c,.int .i64 got,.int .i64 0,.slice none 0 0,.int .i64 0,.int .i64 0,.int .i64 0,.int .i64 0,.int .i64 0,.int .u64 0] (overP code who ws got) (u,Sv.nil,s.2.2) (by simp) rfl rfl rfl hu (PWd.nil _ _ _ _ _)
 have HH:=hid U
 clear R h hp hs hu U
 generalize hm:M.threads.length=m at *
 have ht':(t:Int) < (m:Int):=by omega
 clear hm
 go_enter Tryz.func161,Tryz.ntmps161
 go_wp2
 go_region
 go_wp2
 go_end0
 exact ⟨rfl,(HH.out.1.alloc _).drew,(HH.out.2.alloc _).drew⟩
section
variable {w:World}{B:Bk}{M:PM}{cs:Array Value}{rv:Nat->Value}{sl:List (Sv×Sv×Value)}
theorem PmAt.rown (h:PmAt w B M cs rv sl){r:Nat}(hr:r < 4):Sl w 3 1 (rv r) ((M.ln r).map lnRow)/\(rv r).ownBlock≠some B.x:=by
 have a:=h.li r (by omega)
 have b:=h.n2 r (by omega)
 have e1:lnV rv sl r=rv r:=by unfold lnV;rw [if_pos hr]
 have e2:M.line r=M.ln r:=by unfold PM.line;rw [if_pos hr]
 rw [e1] at a b
 rw [e2] at a
 exact ⟨a,fun e=>(b _ e).1 rfl⟩
theorem PmAt.rowS (_h:PmAt w B M cs rv sl){r:Nat}(hr:r < 4) (k:Nat) (e:k=B.x\/(rv r).ownBlock=some k):POwn B M.threads.length rv sl k:=by
 rcases e with e | e
 ·exact .inl (.inl e)
 ·refine .inl (.inr (.inr (.inr ⟨r,by omega,?_⟩)))
  unfold lnV
  rw [if_pos hr]
  exact e
theorem rowLast_any (B:Bk) (M:PM) (cs:Array Value) (rv:Nat->Value) (sl:List (Sv×Sv×Value)) (r t:Nat) (w:World) (h:PmAt w B M cs rv sl) (hr:r < 4) (hl:(M.ln r).length<=1000) (hn:(M.ln r).Nodup) :
  Calls Tryz.prog 131 #[.pointer (some ⟨B.x,2+r,none⟩),.int .i64 t] w fun e w'=>e=.returned (.tuple #[])/\∃ v',PmAt w' B (M.setLn r ((M.ln r).erase t ++ [t])) (cs.setIfInBounds (2+r) v') (fun s=>if s=r then v' else rv s) sl/\(∀ k,POwn B M.threads.length (fun s=>if s=r then v' else rv s) sl k->POwn B M.threads.length rv sl k\/w.heap.size<=k)/\Fr (POwn B M.threads.length rv sl) w w':=by
 refine (comeLast_any B.x (2+r) (rv r) (M.ln r) t cs B.ty w h.blk (h.row r hr) (h.rown hr).1 hl hn (h.rown hr).2).mono ?_
 rintro e w' ⟨rfl,v',b,s,f,o⟩
 have R:=h.setRow hr b s f o
 exact ⟨rfl,v',R.1,R.2,f.mono (fun k _ e=>h.rowS hr k e)⟩
theorem rowLeave_any (B:Bk) (M:PM) (cs:Array Value) (rv:Nat->Value) (sl:List (Sv×Sv×Value)) (r t:Nat) (w:World) (h:PmAt w B M cs rv sl) (hr:r < 4) (hl:(M.ln r).length<=1000) (hn:(M.ln r).Nodup) :
  Calls Tryz.prog 124 #[.pointer (some ⟨B.x,2+r,none⟩),.int .i64 t] w fun e w'=>e=.returned (.tuple #[])/\∃ v',PmAt w' B (M.setLn r ((M.ln r).erase t)) (cs.setIfInBounds (2+r) v') (fun s=>if s=r then v' else rv s) sl/\(∀ k,POwn B M.threads.length (fun s=>if s=r then v' else rv s) sl k->POwn B M.threads.length rv sl k\/w.heap.size<=k)/\Fr (POwn B M.threads.length rv sl) w w':=by
 refine (leave_any B.x (2+r) (rv r) (M.ln r) t cs B.ty w h.blk (h.row r hr) (h.rown hr).1 hl hn (h.rown hr).2).mono ?_
 rintro e w' ⟨rfl,v',b,s,f,o⟩
 have R:=h.setRow hr b s f (fun k hk=>.inr (by rw [<- o];exact hk))
 exact ⟨rfl,v',R.1,R.2,f.mono (fun k _ e=>h.rowS hr k e)⟩
theorem PmAt.wown (h:PmAt w B M cs rv sl){t:Nat}{p:PT}{s:Sv×Sv×Value}(hp:M.threads[t]? = some p) (hs:sl[t]? = some s):Sl w 3 1 s.2.2 (p.wl.map lnRow)/\s.2.2.ownBlock≠some B.g/\lnV rv sl (4+t)=s.2.2:=by
 have htl:=(List.getElem?_eq_some_iff.1 hp).1
 have a:=h.li (4+t) (by omega)
 have b:=h.n2 (4+t) (by omega)
 have e1:lnV rv sl (4+t)=s.2.2:=by unfold lnV;rw [if_neg (by omega),show 4+t-4=t by omega,hs];rfl
 have e2:M.line (4+t)=p.wl:=by unfold PM.line;rw [if_neg (by omega),show 4+t-4=t by omega,hp];rfl
 rw [e1] at a b
 rw [e2] at a
 exact ⟨a,fun e=>(b _ e).2.1 rfl,e1⟩
theorem PmAt.wlS (h:PmAt w B M cs rv sl){t:Nat}{p:PT}{s:Sv×Sv×Value}(hp:M.threads[t]? = some p) (hs:sl[t]? = some s) (k:Nat) (e:k=B.g\/s.2.2.ownBlock=some k):POwn B M.threads.length rv sl k:=by
 have htl:=(List.getElem?_eq_some_iff.1 hp).1
 rcases e with e | e
 ·exact .inl (.inr (.inl e))
 ·exact .inl (.inr (.inr (.inr ⟨4+t,by omega,by rw [(h.wown hp hs).2.2];exact e⟩)))
theorem wlLast_any (B:Bk) (M:PM) (cs:Array Value) (rv:Nat->Value) (sl:List (Sv×Sv×Value)) (r t:Nat) (p:PT) (s:Sv×Sv×Value) (w:World) (h:PmAt w B M cs rv sl) (hp:M.threads[r]? = some p) (hs:sl[r]? = some s) (hl:p.wl.length<=1000) (hn:p.wl.Nodup) :
  Calls Tryz.prog 131 #[.pointer (some ⟨B.g,r*17+16,none⟩),.int .i64 t] w fun e w'=>e=.returned (.tuple #[])/\∃ v',PmAt w' B (M.upd r (fun q=>{ q with wl:=p.wl.erase t ++ [t] })) cs rv (sl.set r (s.1,s.2.1,v'))/\(∀ k,POwn B M.threads.length rv (sl.set r (s.1,s.2.1,v')) k->POwn B M.threads.length rv sl k\/w.heap.size<=k)/\Fr (POwn B M.threads.length rv sl) w w':=by
 obtain ⟨cur,hc,hg⟩:=h.cur
 refine (comeLast_any B.g (r*17+16) s.2.2 p.wl t cur 158 w hc (hg r p s hp hs) (h.wown hp hs).1 hl hn (h.wown hp hs).2.1).mono ?_
 rintro e w' ⟨rfl,v',b,sl',f,o⟩
 have R:=h.setWl hp hs hc b sl' f o
 exact ⟨rfl,v',R.1,R.2,f.mono (fun k _ e=>h.wlS hp hs k e)⟩
theorem wlLeave_any (B:Bk) (M:PM) (cs:Array Value) (rv:Nat->Value) (sl:List (Sv×Sv×Value)) (r t:Nat) (p:PT) (s:Sv×Sv×Value) (w:World) (h:PmAt w B M cs rv sl) (hp:M.threads[r]? = some p) (hs:sl[r]? = some s) (hl:p.wl.length<=1000) (hn:p.wl.Nodup) :
  Calls Tryz.prog 124 #[.pointer (some ⟨B.g,r*17+16,none⟩),.int .i64 t] w fun e w'=>e=.returned (.tuple #[])/\∃ v',PmAt w' B (M.upd r (fun q=>{ q with wl:=p.wl.erase t })) cs rv (sl.set r (s.1,s.2.1,v'))/\(∀ k,POwn B M.threads.length rv (sl.set r (s.1,s.2.1,v')) k->POwn B M.threads.length rv sl k\/w.heap.size<=k)/\Fr (POwn B M.threads.length rv sl) w w':=by
 obtain ⟨cur,hc,hg⟩:=h.cur
 refine (leave_any B.g (r*17+16) s.2.2 p.wl t cur 158 w hc (hg r p s hp hs) (h.wown hp hs).1 hl hn (h.wown hp hs).2.1).mono ?_
 rintro e w' ⟨rfl,v',b,sl',f,o⟩
 have R:=h.setWl hp hs hc b sl' f (fun k hk=>.inr (by rw [<- o];exact hk))
 exact ⟨rfl,v',R.1,R.2,f.mono (fun k _ e=>h.wlS hp hs k e)⟩
end
theorem end_ready (B:Bk) (S:Nat->Prop) (M:PM) (t:Nat) (p:PT) (code:Int) (w:World) (h:PRep w B S M) (hp:M.threads[t]? = some p) (h6:M.threads.length<=6) (s1:p.st=1) :
  Calls Tryz.prog 125 #[.pointer (some ⟨B.x,0,none⟩),.int .i64 t,.int .i64 code] w fun e w'=>e=.returned (.tuple #[])/\PLeft B S (M.upd t (overP code (-1) [] (-1))) w w':=by
 obtain ⟨cs,rv,sl,h,hS⟩:=h
 have htl:=(List.getElem?_eq_some_iff.1 hp).1
 obtain ⟨s,hs⟩:=h.sl_get hp
 have hc1:=(h.cell 1).trans h.c1
 have k3:=(h.tcell hp hs 3 (by omega)).trans (show (prow p s)[3]? = some (.int .i64 p.st) from rfl)
 rw [s1] at k3
 have O:=over_at B M cs rv sl t p s 0 code (-1) (-1) Sv.nil [] w h hp hs h6 (PWd.nil _ _ _ _ _)
 have HO:=hid O
 have HH:=hid (And.intro h (And.intro hs hS))
 generalize hm:M.threads.length=m at *
 have HM:=hid hm
 have ht':(t:Int) < (m:Int):=by omega
 clear h hp hs hS O s1 hm
 go_enter Tryz.func125,Tryz.ntmps125
 go_wp2_with (go_at_call 161;refine HO.out.mono ?_;rintro e w2 ⟨rfl,H2⟩)
 go_end0
 refine ⟨rfl,PLeft.of (M:=M) (by rw [HM.out];exact HH.out.2.2) (by simp [PM.upd]) H2.1 (fun k hk=>pown_set HH.out.2.1 (s':=(Sv.nil,Sv.nil,s.2.2)) rfl (fun k e=>(in_nil e).elim) (fun k e=>(in_nil e).elim) k hk) H2.2 (fun k e=>.inl (.inr (.inl e)))⟩
theorem end_wait (B:Bk) (S:Nat->Prop) (M:PM) (t:Nat) (p:PT) (code:Int) (r:Nat) (w:World) (h:PRep w B S M) (hp:M.threads[t]? = some p) (h6:M.threads.length<=6) (s1:p.st≠1) (hr:p.row=r) (h4:r < 4) (hl:(M.ln r).length<=1000) (hn:(M.ln r).Nodup) :
  Calls Tryz.prog 125 #[.pointer (some ⟨B.x,0,none⟩),.int .i64 t,.int .i64 code] w fun e w'=>e=.returned (.tuple #[])/\PLeft B S ((M.setLn r ((M.ln r).erase t ++ [t])).upd t (overP code (-1) [] (-1))) w w':=by
 obtain ⟨cs,rv,sl,h,hS⟩:=h
 have htl:=(List.getElem?_eq_some_iff.1 hp).1
 obtain ⟨s,hs⟩:=h.sl_get hp
 have hc1:=(h.cell 1).trans h.c1
 have k3:=(h.tcell hp hs 3 (by omega)).trans (show (prow p s)[3]? = some (.int .i64 p.st) from rfl)
 have d:(p.st != 1)=true:=by simpa using s1
 have HR:=hid (row_any B M cs rv sl t p w h hp h6 r hr h4)
 have HL:Hid (∀ w1,Below w.heap.size w w1->_):=fun w1 (hb:Below w.heap.size w w1)=>rowLast_any B M cs rv sl r t w1 (h.below hb) h4 hl hn
 have HH:=hid (And.intro h (And.intro hs (And.intro hS (And.intro hp h6))))
 generalize hm:M.threads.length=m at *
 have HM:=hid hm
 have ht':(t:Int) < (m:Int):=by omega
 generalize p.st=pst at *
 clear h hp hs hS s1 hm hr hl hn
 go_enter Tryz.func125,Tryz.ntmps125
 go_wp2_with (first
  | (go_at_call 130;refine HR.out.mono ?_;rintro e w1 ⟨rfl,hb1⟩;replace hb1:=hid hb1)
  | (go_at_call 131;refine (HL.out _ hb1.out).mono ?_;rintro e w2 ⟨rfl,H2⟩;replace H2:=hid H2;obtain ⟨v2,A2⟩:=H2.out;replace A2:=hid A2;have O2:=hid (over_at B (M.setLn r ((M.ln r).erase t ++ [t])) _ _ sl t p s 0 code (-1) (-1) Sv.nil [] w2 A2.out.1 HH.out.2.2.2.1 HH.out.2.1 (by have:=HM.out;have:=HH.out.2.2.2.2;show M.threads.length<=6;omega) (PWd.nil _ _ _ _ _)))
  | (go_at_call 161;refine O2.out.mono ?_;rintro e w3 ⟨rfl,H3⟩;replace H3:=hid H3))
 go_end0
 have hm:=HM.out
 subst hm
 have z1:=hb1.out.size
 have z2:=A2.out.2.2.size
 refine ⟨rfl,PLeft.of (M:=M) HH.out.2.2.1 (by simp [PM.upd,PM.setLn]) H3.out.1 (fun k hk=>?_) (T:=POwn B M.threads.length rv sl) (((Fr.of_below hb1.out _).trans A2.out.2.2).trans (H3.out.2.mono (fun k _ e=>.inl (.inr (.inl e))))) (fun k e=>e)⟩
 rcases pown_set HH.out.2.1 (s':=(Sv.nil,Sv.nil,s.2.2)) (b:=w.heap.size) rfl (fun k e=>(in_nil e).elim) (fun k e=>(in_nil e).elim) k hk with e | e
 ·exact (A2.out.2.1 k e).imp id (fun e=>by omega)
 ·exact .inr e
theorem PM.upd_get {M:PM}{t:Nat}{p:PT}(hp:M.threads[t]? = some p) (f:PT->PT):(M.upd t f).threads[t]? = some (f p):=(get_modA (g:=f) hp).trans (if_pos rfl)
theorem PM.upd_two {M:PM}{t:Nat}{p:PT}{f g h:PT->PT}(hp:M.threads[t]? = some p) (e:g (f p)=h p):(M.upd t f).upd t g=M.upd t h:=by
 unfold PM.upd
 simp only
 rw [modify_two (h:=h) hp e]
theorem timU {c q:Int}(_h:0 < q):IntKind.u64.wrap (c+IntKind.u64.wrap q)=(c+q) % 18446744073709551616:=by
 rw [IntKind.wrap_u64,IntKind.wrap_u64];omega
theorem pause_any (B:Bk) (S:Nat->Prop) (M:PM) (t:Nat) (p:PT) (state:Int) (r:Nat) (w:World) (h:PRep w B S M) (hp:M.threads[t]? = some p) (h6:M.threads.length<=6) (hr:p.row=r) (h4:r < 4) (hl:(M.ln r).length<=1000) (hn:(M.ln r).Nodup) :
  Calls Tryz.prog 136 #[.pointer (some ⟨B.x,0,none⟩),.int .i64 t,.int .i64 state] w fun e w'=>e=.returned (.tuple #[])/\PLeft B S ((M.setLn r ((M.ln r).erase t)).upd t (fun p=>{ p with st:=state,time:=if 0 < p.wait then (M.clock+p.wait) % 18446744073709551616 else p.time })) w w':=by
 obtain ⟨cs,rv,sl,h,hS⟩:=h
 have htl:=(List.getElem?_eq_some_iff.1 hp).1
 obtain ⟨s,hs⟩:=h.sl_get hp
 have hc1:=(h.cell 1).trans h.c1
 have HR:Hid (∀ w1,Below w.heap.size w w1->_):=fun w1 (hb:Below w.heap.size w w1)=>row_any B M cs rv sl t p w1 (h.below hb) hp h6 r hr h4
 have HL:Hid (∀ w1,Below w.heap.size w w1->_):=fun w1 (hb:Below w.heap.size w w1)=>rowLeave_any B M cs rv sl r t w1 (h.below hb) h4 hl hn
 have HH:=hid (And.intro h (And.intro hs (And.intro hS (And.intro hp h6))))
 generalize hm:M.threads.length=m at *
 have HM:=hid hm
 have ht':(t:Int) < (m:Int):=by omega
 clear h hp hs hS hm hr hl hn
 have HB:Hid (Below w.heap.size w w):=Below.refl _ _
 go_enter Tryz.func136,Tryz.ntmps136
 go_wp2_with (first
  | (go_at_call 130;refine (HR.out _ HB.out).mono ?_;rintro e w1 ⟨rfl,hb1⟩;replace hb1:=hid hb1)
  | (go_at_call 124;refine (HL.out _ hb1.out).mono ?_;rintro e w2 ⟨rfl,H2⟩;replace H2:=hid H2;obtain ⟨v2,A2⟩:=H2.out;replace A2:=hid A2;have k3:=(A2.out.1.tcell (t:=t) HH.out.2.2.2.1 HH.out.2.1 3 (by omega)).trans (show (prow p s)[3]? = some (.int .i64 p.st) from rfl);have k14:=(A2.out.1.tcell (t:=t) HH.out.2.2.2.1 HH.out.2.1 14 (by omega)).trans (show (prow p s)[14]? = some (.int .i64 p.wait) from rfl);have k15:=(A2.out.1.tcell (t:=t) HH.out.2.2.2.1 HH.out.2.1 15 (by omega)).trans (show (prow p s)[15]? = some (.int .u64 p.time) from rfl);have kc:w2.cell? ⟨B.x,0,none⟩=some (.int .u64 M.clock):=(A2.out.1.cell 0).trans A2.out.1.c0;have kf:=A2.out.1.tfro;have hgx:=A2.out.1.n1.1))
 ·rename 0 < p.wait=>hq
  have HQ:=hid hq
  go_region
  go_wp2
  go_end0
  have hm:=HM.out
  subst hm
  have z1:=hb1.out.size
  have z2:=A2.out.2.2.size
  have A:=A2.out.1.setTh (t:=t) (j:=3) (fun p=>{ p with st:=state }) (.int .i64 state) HH.out.2.2.2.1 HH.out.2.1 (by omega) rfl rfl rfl rfl
  have C:=A.1.setTh (t:=t) (j:=15) (fun p=>{ p with time:=(M.clock+p.wait) % 18446744073709551616 }) (.int .u64 ((M.clock+p.wait) % 18446744073709551616)) (PM.upd_get (M:=M.setLn r ((M.ln r).erase t)) (p:=p) HH.out.2.2.2.1 _) HH.out.2.1 (by omega) rfl rfl rfl rfl
  rw [PM.upd_two (M:=M.setLn r ((M.ln r).erase t)) (p:=p) (h:=fun p=>{ p with st:=state,time:=if 0 < p.wait then (M.clock+p.wait) % 18446744073709551616 else p.time }) HH.out.2.2.2.1 (by simp [HQ.out])] at C
  first
   | rw [timU HQ.out]
   | skip
  exact ⟨rfl,PLeft.of (M:=M) HH.out.2.2.1 (by simp [PM.upd,PM.setLn]) C.1.drew (fun k hk=>(A2.out.2.1 k hk).imp id (fun e=>by omega)) (T:=POwn B M.threads.length rv sl) ((((Fr.of_below hb1.out _).trans A2.out.2.2).trans ((A.2.trans C.2).mono (fun k _ e=>.inl (.inr (.inl e))))).drew) (fun k e=>e)⟩
 ·have hq:¬ 0 < p.wait:=by omega
  have HQ:=hid hq
  go_end0
  have hm:=HM.out
  subst hm
  have z1:=hb1.out.size
  have z2:=A2.out.2.2.size
  have A:=A2.out.1.setTh (t:=t) (j:=3) (fun p=>{ p with st:=state,time:=if 0 < p.wait then (M.clock+p.wait) % 18446744073709551616 else p.time }) (.int .i64 state) HH.out.2.2.2.1 HH.out.2.1 (by omega) (by simp [HQ.out,prow]) rfl rfl rfl
  exact ⟨rfl,PLeft.of (M:=M) HH.out.2.2.1 (by simp [PM.upd,PM.setLn]) A.1 (fun k hk=>(A2.out.2.1 k hk).imp id (fun e=>by omega)) (T:=POwn B M.threads.length rv sl) (((Fr.of_below hb1.out _).trans A2.out.2.2).trans (A.2.mono (fun k _ e=>.inl (.inr (.inl e))))) (fun k e=>e)⟩
theorem endTurn_any (B:Bk) (S:Nat->Prop) (M:PM) (t:Nat) (p:PT) (r:Nat) (w:World) (h:PRep w B S M) (hp:M.threads[t]? = some p) (h6:M.threads.length<=6) (hr:p.row=r) (h4:r < 4) (hl:(M.ln r).length<=1000) (hn:(M.ln r).Nodup) :
  Calls Tryz.prog 83 #[.pointer (some ⟨B.x,0,none⟩),.int .i64 t] w fun e w'=>e=.returned (.tuple #[])/\PLeft B S ((M.upd t (fun p=>{ p with left:=3 })).setLn r ((M.ln r).erase t ++ [t])) w w':=by
 obtain ⟨cs,rv,sl,h,hS⟩:=h
 have htl:=(List.getElem?_eq_some_iff.1 hp).1
 obtain ⟨s,hs⟩:=h.sl_get hp
 have hc1:=(h.cell 1).trans h.c1
 have k2:=(h.tcell hp hs 2 (by omega)).trans (show (prow p s)[2]? = some (.int .i64 p.left) from rfl)
 have kf:=h.tfro
 have A:=h.setTh (t:=t) (j:=2) (fun p=>{ p with left:=3 }) (.int .i64 3) hp hs (by omega) rfl rfl rfl rfl
 have HA:=hid A
 have h6':(M.upd t (fun p=>{ p with left:=3 })).threads.length<=6:=by simpa [PM.upd] using h6
 have HR:=hid (row_any B (M.upd t (fun p=>{ p with left:=3 })) cs rv sl t _ _ A.1 (PM.upd_get hp _) h6' r hr h4)
 have HL:Hid (∀ w1,Below _ (w.setCell ⟨B.g,t*17+2,none⟩ (.int .i64 3)) w1->_):=fun w1 hb=>rowLast_any B (M.upd t (fun p=>{ p with left:=3 })) cs rv sl r t w1 (A.1.below hb) h4 hl hn
 have HH:=hid (And.intro h (And.intro hs (And.intro hS (And.intro hp h6))))
 generalize hm:M.threads.length=m at *
 have HM:=hid hm
 have ht':(t:Int) < (m:Int):=by omega
 clear h hp hs hS hm hr hl hn A h6'
 go_enter Tryz.func83,Tryz.ntmps83
 go_wp2_with (first
  | (go_at_call 130;refine HR.out.mono ?_;rintro e w1 ⟨rfl,hb1⟩;replace hb1:=hid hb1)
  | (go_at_call 131;refine (HL.out _ hb1.out).mono ?_;rintro e w2 ⟨rfl,H2⟩;replace H2:=hid H2))
 go_end0
 obtain ⟨v2,a1,a2,a3⟩:=H2.out
 have hm:=HM.out
 subst hm
 have el:(M.upd t (fun p=>{ p with left:=3 })).threads.length=M.threads.length:=by simp [PM.upd]
 rw [el] at a2 a3
 have z1:=hb1.out.size
 have z0:w.heap.size=(w.setCell ⟨B.g,t*17+2,none⟩ (.int .i64 3)).heap.size:=by simp [World.setCell]
 exact ⟨rfl,PLeft.of (M:=M) HH.out.2.2.1 el a1 (fun k hk=>(a2 k hk).imp id (fun e=>by omega)) (T:=POwn B M.threads.length rv sl) (((HA.out.2.mono (fun k _ e=>.inl (.inr (.inl e)))).trans (Fr.of_below hb1.out _)).trans a3) (fun k e=>e)⟩
theorem spend_more (B:Bk) (S:Nat->Prop) (M:PM) (t:Nat) (p:PT) (w:World) (h:PRep w B S M) (hp:M.threads[t]? = some p) (h6:M.threads.length<=6) (hl1:2<=p.left) (hl2:p.left<=3) :
  Calls Tryz.prog 79 #[.pointer (some ⟨B.x,0,none⟩),.int .i64 t] w fun e w'=>e=.returned (.tuple #[])/\PLeft B S (M.upd t (fun p=>{ p with left:=p.left-1 })) w w':=by
 obtain ⟨cs,rv,sl,h,hS⟩:=h
 have htl:=(List.getElem?_eq_some_iff.1 hp).1
 obtain ⟨s,hs⟩:=h.sl_get hp
 have hc1:=(h.cell 1).trans h.c1
 have k2:=(h.tcell hp hs 2 (by omega)).trans (show (prow p s)[2]? = some (.int .i64 p.left) from rfl)
 have kf:=h.tfro
 have A:=h.setTh (t:=t) (j:=2) (fun p=>{ p with left:=p.left-1 }) (.int .i64 (p.left-1)) hp hs (by omega) rfl rfl rfl rfl
 have HA:=hid (And.intro A hS)
 have hgx:=h.n1.1
 generalize hm:M.threads.length=m at *
 have HM:=hid hm
 have ht':(t:Int) < (m:Int):=by omega
 clear h hp hs hS hm A
 generalize p.left=lf at *
 have hz:((lf-1:Int) == 0)=false:=by simp;omega
 go_enter Tryz.func79,Tryz.ntmps79
 go_wp2
 go_end0
 have hm:=HM.out
 subst hm
 exact ⟨rfl,PLeft.of (M:=M) HA.out.2 (by simp [PM.upd]) HA.out.1.1 (fun k hk=>.inl hk) HA.out.1.2 (fun k e=>.inl (.inr (.inl e)))⟩
theorem spend_end (B:Bk) (S:Nat->Prop) (M:PM) (t:Nat) (p:PT) (r:Nat) (w:World) (h:PRep w B S M) (hp:M.threads[t]? = some p) (h6:M.threads.length<=6) (hl1:p.left=1) (hr:p.row=r) (h4:r < 4) (hl:(M.ln r).length<=1000) (hn:(M.ln r).Nodup) :
  Calls Tryz.prog 79 #[.pointer (some ⟨B.x,0,none⟩),.int .i64 t] w fun e w'=>e=.returned (.tuple #[])/\PLeft B S ((M.upd t (fun p=>{ p with left:=3 })).setLn r ((M.ln r).erase t ++ [t])) w w':=by
 obtain ⟨cs,rv,sl,h,hS⟩:=h
 have htl:=(List.getElem?_eq_some_iff.1 hp).1
 obtain ⟨s,hs⟩:=h.sl_get hp
 have hc1:=(h.cell 1).trans h.c1
 have k2:=(h.tcell hp hs 2 (by omega)).trans (show (prow p s)[2]? = some (.int .i64 p.left) from rfl)
 rw [hl1] at k2
 have kf:=h.tfro
 have A:=h.setTh (t:=t) (j:=2) (fun p=>{ p with left:=0 }) (.int .i64 0) hp hs (by omega) rfl rfl rfl rfl
 have L1:PLeft B S (M.upd t (fun p=>{ p with left:=0 })) w (w.setCell ⟨B.g,t*17+2,none⟩ (.int .i64 0)):=PLeft.of (M:=M) hS (by simp [PM.upd]) A.1 (fun k hk=>.inl hk) A.2 (fun k e=>.inl (.inr (.inl e)))
 have e2:(M.upd t (fun p=>{ p with left:=0 })).upd t (fun p=>{ p with left:=3 })=M.upd t (fun p=>{ p with left:=3 }):=PM.upd_two hp rfl
 have h6':(M.upd t (fun p=>{ p with left:=0 })).threads.length<=6:=by simpa [PM.upd] using h6
 obtain ⟨⟨S1,R1,o1⟩,F1⟩:=L1
 have E:=endTurn_any B S1 (M.upd t (fun p=>{ p with left:=0 })) t _ r _ R1 (PM.upd_get hp _) h6' hr h4 hl hn
 rw [e2] at E
 have HE:=hid (And.intro E (And.intro o1 F1))
 have hgx:=h.n1.1
 generalize hm:M.threads.length=m at *
 have ht':(t:Int) < (m:Int):=by omega
 clear h hp hs hS hm A E e2 h6' hr hl hn R1 o1 F1
 go_enter Tryz.func79,Tryz.ntmps79
 go_wp2_with (go_at_call 83;refine HE.out.1.mono ?_;rintro e w2 ⟨rfl,H2⟩)
 go_end0
 obtain ⟨⟨S2,R2,o2⟩,F2⟩:=H2
 have z:=HE.out.2.2.size
 exact ⟨rfl,⟨S2,R2,fun b hb=>(o2 b hb).elim (HE.out.2.1 b) (fun e=>.inr (by omega))⟩,HE.out.2.2.next F2 HE.out.2.1⟩
open Go.RowKit
theorem find_app {L:List Lf}{s n:Int}(h:findLf L s n=none) (l:Lf) (h1:l.sp=s) (h2:l.pg=n) (a b:Int):findLf (L ++ [l]) a b=if s=a/\n=b then some l else findLf L a b:=by
 unfold findLf at *
 rw [List.find?_append]
 by_cases q:s=a/\n=b
 ·rw [if_pos q,<- q.1,<- q.2,h]
  simp [h1,h2]
 ·rw [if_neg q]
  have:(l.sp == a && l.pg == b)=false:=by simp;omega
  rw [List.find?_cons,this]
  simp
theorem gone_out (L:List Lf) (s n:Int):findLf (goneL L s n true) s n=none:=by rw [gone_own,find_out,if_pos ⟨rfl,rfl⟩]
theorem pageOf_any (B:Bk) (M:PM) (cs:Array Value) (rv:Nat->Value) (sl:List (Sv×Sv×Value)) (t:Nat) (p:PT) (a j:Nat) (w:World) (h:PmAt w B M cs rv sl) (hp:M.threads[t]? = some p) (ha:p.sp=a) (hs:a < M.sp.toNat) (hj:j < 6) :
  Calls Tryz.prog 171 #[.pointer (some ⟨B.x,0,none⟩),.pointer (some ⟨B.g,t*17,none⟩),.int .i64 j] w fun e w'=>e=.returned (.pointer (some ⟨B.gs,a*30+12+j*3,none⟩))/\Below w.heap.size w w':=by
 obtain ⟨s,hsl⟩:=h.sl_get hp
 have hc6:=(h.cell 6).trans h.c6
 have k0:=(h.tcell hp hsl 0 (by omega)).trans (show (prow p s)[0]? = some (.int .i64 p.sp) from rfl)
 rw [ha] at k0
 simp only [Nat.add_zero] at k0
 generalize hm:M.sp.toNat=m at *
 have hs':(a:Int) < (m:Int):=by omega
 have hj':(j:Int) < 6:=by omega
 clear h hp hsl hm ha
 go_enter Tryz.func171,Tryz.ntmps171
 go_wp2
 go_quiet (fail)
 go_wp2
 go_ret
 exact ⟨rfl,below_drewN (Below.refl _ _) _⟩
theorem and_zero (a:Int):bits .and .i64 0 a=0:=by
 show IntKind.i64.wrap ((BitVec.ofInt 64 0 &&& BitVec.ofInt 64 a).toNat:Int)=0
 have:(BitVec.ofInt 64 0 &&& BitVec.ofInt 64 a)=0:=by simp
 rw [this]
 rfl
theorem lend_any (B:Bk) (M:PM) (cs:Array Value) (rv:Nat->Value) (sl:List (Sv×Sv×Value)) (s r:Nat) (a b:PT) (w:World) (rk:Int->Int->Nat) (h:PmAt w B M cs rv sl) (ha:M.threads[s]? = some a) (hb:M.threads[r]? = some b) (ok:LOk rk M.sp M.leaves) (h3:M.sp<=3)
  (a0:0<=a.sp) (a1:a.sp<=M.sp-1) (b0:0<=b.sp) (b1:b.sp<=M.sp-1) (i0:-1<=a.item) (i1:a.item<=5) (w0:-1<=b.win) (w1:b.win<=5) :
  Calls Tryz.prog 165 #[.pointer (some ⟨B.x,0,none⟩),.pointer (some ⟨B.g,s*17,none⟩),.pointer (some ⟨B.g,r*17,none⟩)] w fun e w'=>e=.returned (.int .i64 (lendP M.leaves a.sp a.item a.rt b.sp b.win).2)/\Took B M (lendP M.leaves a.sp a.item a.rt b.sp b.win).1 cs rv sl w w':=by
 obtain ⟨sa,hsa⟩:=h.sl_get ha
 obtain ⟨sb,hsb⟩:=h.sl_get hb
 have R:=h.trange ha hsa
 have g9:=R 9 (.slice sa.2.1.a sa.2.1.n sa.2.1.c) rfl
 have g10:=R 10 (.int .i64 a.item) rfl
 have g11:=R 11 (.int .i64 a.rt) rfl
 have k13:=(h.tcell hb hsb 13 (by omega)).trans (show (prow b sb)[13]? = some (.int .i64 b.win) from rfl)
 have lx:=h.lx
 have lg:=h.lg
 clear R
 by_cases c1:a.item=-1\/b.win=-1
 ·have el:lendP M.leaves a.sp a.item a.rt b.sp b.win=(M.leaves,-1):=by unfold lendP;rw [if_pos (by omega)]
  rw [el]
  have HH:=hid h
  clear h ok ha hb hsa hsb
  by_cases d1:a.item=-1
  ·rw [d1] at g10
   clear d1 c1
   go_enter Tryz.func165,Tryz.ntmps165
   go_wp2
   go_region
   go_wp2
   go_ret
   exact ⟨rfl,(HH.out.alloc _).drew,((Fr.refl _ _).alloc _).drew⟩
  ·have d2:b.win=-1:=by omega
   have e1:(a.item == -1)=false:=by simpa using d1
   rw [d2] at k13
   generalize a.item=ai at *
   clear d1 d2 c1
   go_enter Tryz.func165,Tryz.ntmps165
   go_wp2
   go_region
   go_wp2
   go_ret
   exact ⟨rfl,(HH.out.alloc _).drew,((Fr.refl _ _).alloc _).drew⟩
 ·obtain ⟨ji,eji⟩:=Int.eq_ofNat_of_zero_le (show 0<=a.item by omega)
  obtain ⟨jw,ejw⟩:=Int.eq_ofNat_of_zero_le (show 0<=b.win by omega)
  obtain ⟨na,ena⟩:=Int.eq_ofNat_of_zero_le a0
  obtain ⟨nb,enb⟩:=Int.eq_ofNat_of_zero_le b0
  have lna:na < M.sp.toNat:=by omega
  have lnb:nb < M.sp.toNat:=by omega
  have lji:ji < 6:=by omega
  have ljw:jw < 6:=by omega
  have T:Hid (∀ w2,PmAt w2 B M cs rv sl->_):=fun w2 h2=>remove_of B M cs rv sl nb jw w2 lnb ljw (takeBack_any _ B M cs rv sl nb jw w2 rk h2 ok lnb ljw h3 (Nat.lt_succ_self _))
  have PB:Hid (∀ w2,PmAt w2 B M cs rv sl->_):=fun w2 h2=>pageOf_any B M cs rv sl r b nb jw w2 h2 hb enb lnb ljw
  obtain ⟨G,eG⟩:∃ G,goneL M.leaves nb jw true=G:=⟨_,rfl⟩
  rw [eG] at T
  have PA:Hid (∀ w2,PmAt w2 B { M with leaves:=G } cs rv sl->_):=fun w2 h2=>pageOf_any B { M with leaves:=G } cs rv sl s a na ji w2 h2 ha ena lna lji
  have hgo:findLf G nb jw=none:=by rw [<- eG];exact gone_out _ _ _
  have e1:(a.item == -1)=false:=by simp;omega
  have e2:(b.win == -1)=false:=by simp;omega
  rw [eji] at g10 e1
  rw [ejw] at k13 e2
  have HE:lendP M.leaves a.sp a.item a.rt b.sp b.win=if bits .and .i64 (lb (findLf G na ji)) a.rt=0 then (G,-1) else (G ++ [⟨nb,jw,la (findLf G na ji),bits .and .i64 (lb (findLf G na ji)) a.rt,na,ji⟩],(jw:Int)):=by
   unfold lendP
   rw [if_neg (by omega),eji,ejw,ena,enb,eG]
   cases hf:findLf G na ji with
   | none=>simp only [lb,and_zero,if_true]
   | some l=>rfl
  obtain ⟨LP,hLP⟩:∃ LP,lendP M.leaves a.sp a.item a.rt b.sp b.win=LP:=⟨_,rfl⟩
  rw [hLP] at HE ⊢
  replace HE:=hid HE
  have lgs:B.gs < w.heap.size:=h.ls
  have HH:=hid (And.intro h (And.intro lna (And.intro lnb (And.intro lji (And.intro ljw hgo)))))
  generalize a.rt=art at *
  clear h ok ha hb hsa hsb c1 eji ejw ena enb a0 a1 b0 b1 i0 i1 w0 w1 hgo eG hLP
  have H1:Hid (PmAt (w.alloc (.cells #[.slice sa.2.1.a sa.2.1.n sa.2.1.c,.int .i64 ji,.int .i64 art] 154)).drew B M cs rv sl):=(HH.out.1.alloc _).drew
  have hX:Hid ((w.alloc (.cells #[.slice sa.2.1.a sa.2.1.n sa.2.1.c,.int .i64 ji,.int .i64 art] 154)).drew.heap[w.heap.size]? = some (.cells #[.slice sa.2.1.a sa.2.1.n sa.2.1.c,.int .i64 ji,.int .i64 art] 154 (0,0))):=heap_alloc_new w _
  have F1:Hid (Fr (fun k=>k=B.gs) w (w.alloc (.cells #[.slice sa.2.1.a sa.2.1.n sa.2.1.c,.int .i64 ji,.int .i64 art] 154)).drew):=((Fr.refl _ _).alloc _).drew
  have z1:(w.alloc (.cells #[.slice sa.2.1.a sa.2.1.n sa.2.1.c,.int .i64 ji,.int .i64 art] 154)).drew.heap.size=w.heap.size+1:=by simp [World.drew]
  go_enter Tryz.func165,Tryz.ntmps165
  go_wp2
  go_region
  go_wp2_with fail
  generalize (w.alloc (.cells #[.slice sa.2.1.a sa.2.1.n sa.2.1.c,.int .i64 ji,.int .i64 art] 154)).drew=wa at *
  go_at_call 171
  refine (PB.out _ H1.out).mono ?_
  rintro e w2 ⟨rfl,B2⟩
  have H2:=hid (H1.out.below B2)
  have hX2:=hid ((B2.block w.heap.size (by omega)).trans hX.out)
  have F2:=hid (F1.out.trans (Fr.of_below B2 _))
  have z2:=B2.size
  clear B2 H1 hX F1 PB
  go_wp2_with fail
  go_at_call 144
  refine (T.out _ H2.out).mono ?_
  rintro e w3 ⟨rfl,H3⟩
  have hX3:=hid ((H3.2.block w.heap.size (by omega) (by omega)).trans hX2.out)
  have F3:=hid (F2.out.trans H3.2)
  have z3:=H3.2.size
  have q1:w3.cell? ⟨w.heap.size,1,none⟩=some (.int .i64 ji):=(cell_of_row w3 _ 1 _ _ _ hX3.out).trans rfl
  replace H3:=hid H3.1
  clear H2 hX2 F2 T
  go_wp2_with fail
  go_at_call 171
  refine (PA.out _ H3.out).mono ?_
  rintro e w4 ⟨rfl,B4⟩
  have H4:=hid (H3.out.below B4)
  have hX4:=hid ((B4.block w.heap.size (by omega)).trans hX3.out)
  have F4:=hid (F3.out.trans (Fr.of_below B4 _))
  have q2:w4.cell? ⟨w.heap.size,2,none⟩=some (.int .i64 art):=(cell_of_row w4 _ 2 _ _ _ hX4.out).trans rfl
  have q0:=(H4.out.pageC (s:=na) (j:=ji) HH.out.2.1 HH.out.2.2.2.1).1
  have q3:=(H4.out.pageC (s:=na) (j:=ji) HH.out.2.1 HH.out.2.2.2.1).2.1
  have r0:=(H4.out.pageC (s:=nb) (j:=jw) HH.out.2.2.1 HH.out.2.2.2.2.1).1
  have r1:=(H4.out.pageC (s:=nb) (j:=jw) HH.out.2.2.1 HH.out.2.2.2.2.1).2.1
  have r2:=(H4.out.pageC (s:=nb) (j:=jw) HH.out.2.2.1 HH.out.2.2.2.2.1).2.2
  have fz:=H4.out.sfro
  simp only at q0 q3 r0 r1 r2
  clear B4 H3 hX3 F3 PA q1 z2 z3
  obtain ⟨LB,hlb⟩:∃ LB,lb (findLf G na ji)=LB:=⟨_,rfl⟩
  obtain ⟨LA,hla⟩:∃ LA,la (findLf G na ji)=LA:=⟨_,rfl⟩
  rw [hlb] at q3
  rw [hla] at q0
  have HL:=hid (And.intro hlb hla)
  clear hlb hla
  by_cases c0:bits .and .i64 LB art=0
  ·have d:(bits .and .i64 LB art == 0)=true:=by simpa using c0
   have HC:=hid c0
   clear c0
   go_wp2
   go_region
   go_wp2
   go_ret
   rw [HE.out,HL.out.1,HL.out.2,if_pos HC.out]
   exact ⟨rfl,H4.out.drew,F4.out.drew⟩
  ·have d:(bits .and .i64 LB art == 0)=false:=by simpa using c0
   have HC:=hid c0
   clear c0
   go_wp2
   go_region
   go_wp2
   go_ret
   rw [HE.out,HL.out.1,HL.out.2,if_neg HC.out]
   have P:=H4.out.setPage (s:=nb) (j:=jw) (o:=some ⟨nb,jw,LA,bits .and .i64 LB art,na,ji⟩) (L':=G ++ [⟨nb,jw,LA,bits .and .i64 LB art,na,ji⟩]) HH.out.2.2.1 HH.out.2.2.2.2.1 (fun x y=>find_app HH.out.2.2.2.2.2 _ rfl rfl x y)
   exact ⟨rfl,P.1.drew,(F4.out.trans P.2).drew⟩
end Go.Proofs.YteejjgbeknnmeaaGreatDoor
