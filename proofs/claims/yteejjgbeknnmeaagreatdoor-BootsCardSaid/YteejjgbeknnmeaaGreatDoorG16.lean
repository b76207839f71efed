import Derived.Test.YteejjgbeknnmeaaGreatDoorG15
set_option maxRecDepth 100000
set_option maxHeartbeats 20000000
namespace Go.Proofs.YteejjgbeknnmeaaGreatDoor
open Go.RowKit
section
variable {w w':World}{B:Bk}{M:PM}{cs:Array Value}{rv:Nat->Value}{sl:List (Sv×Sv×Value)}
theorem pwr_set {n t:Nat}{s s':Sv×Sv×Value}(hs:sl[t]? = some s) (e:s'.2.2=s.2.2) (k:Nat):PWr B n rv (sl.set t s') k↔PWr B n rv sl k:=by
 unfold PWr;simp only [lnV_set hs e]
theorem PWd.set {n t:Nat}{s s':Sv×Sv×Value}{u:Sv}{l:List Int}(h:PWd w B n rv sl u l) (hs:sl[t]? = some s) (e:s'.2.2=s.2.2):PWd w B n rv (sl.set t s') u l:=⟨h.inl,fun k hk=>⟨(h.at_ k hk).1,fun g=>(h.at_ k hk).2 ((pwr_set hs e k).1 g)⟩⟩
theorem PWd.of_g {n:Nat}{u:Sv}{l:List Int}(h:PWd w B n rv sl u l) (F:Fr (fun k=>k=B.g\/k=B.gs) w w'):PWd w' B n rv sl u l:=h.kept F (fun _k _ a=>.inl (fun e=>a (e.elim (fun e=>.inr (.inl e)) (fun e=>.inr (.inr (.inl e)))))) (fun _ _ a=>a)
theorem PWd.row {n r:Nat}{u:Sv}{l:List Int}{v':Value}(h:PWd w B n rv sl u l) (hr:r < 4) (F:Fr (fun k=>k=B.x\/(rv r).ownBlock=some k) w w') (hn:∀ k,v'.ownBlock=some k->w.heap.size<=k\/(rv r).ownBlock=some k):PWd w' B n (fun s=>if s=r then v' else rv s) sl u l:=by
 have eJ:lnV rv sl r=rv r:=by unfold lnV;rw [if_pos hr]
 refine h.kept F (fun k _ a=>.inl (fun e=>a (e.elim .inl (fun e=>.inr (.inr (.inr ⟨r,by omega,by rw [eJ];exact e⟩)))))) (fun k hk a=>?_)
 rcases a with a | a | a | ⟨j,hj,a⟩
 ·exact .inl a
 ·exact .inr (.inl a)
 ·exact .inr (.inr (.inl a))
 ·refine .inr (.inr (.inr ?_))
  by_cases e:j=r
  ·subst e
   have e2:lnV (fun s=>if s=j then v' else rv s) sl j=v':=by unfold lnV;rw [if_pos hr];simp
   rw [e2] at a
   rcases hn k a with g | g
   ·omega
   ·exact ⟨j,hj,by rw [eJ];exact g⟩
  ·refine ⟨j,hj,?_⟩
   have e2:lnV (fun s=>if s=r then v' else rv s) sl j=lnV rv sl j:=by unfold lnV;simp [e]
   rw [e2] at a
   exact a
theorem rowFirst_fine (B:Bk) (M:PM) (cs:Array Value) (rv:Nat->Value) (sl:List (Sv×Sv×Value)) (r t:Nat) (w:World) (h:PmAt w B M cs rv sl) (hr:r < 4) (hl:(M.ln r).length<=1000) (hn:(M.ln r).Nodup) :
  Calls Tryz.prog 166 #[.pointer (some ⟨B.x,2+r,none⟩),.int .i64 t] w fun e w'=>e=.returned (.tuple #[])/\∃ v',PmAt w' B (M.setLn r (t :: (M.ln r).erase t)) (cs.setIfInBounds (2+r) v') (fun s=>if s=r then v' else rv s) sl/\(∀ k,POwn B M.threads.length (fun s=>if s=r then v' else rv s) sl k->POwn B M.threads.length rv sl k\/w.heap.size<=k)/\Fr (fun k=>k=B.x\/(rv r).ownBlock=some k) w w'/\∀ k,v'.ownBlock=some k->w.heap.size<=k\/(rv r).ownBlock=some k:=by
 refine (comeFirst_any B.x (2+r) (rv r) (M.ln r) t cs B.ty w h.blk (h.row r hr) (h.rown hr).1 hl hn (h.rown hr).2).mono ?_
 rintro e w' ⟨rfl,v',b,s,f,o⟩
 have R:=h.setRow hr b s f o
 exact ⟨rfl,v',R.1,R.2,f,o⟩
end
theorem set5c {w:World}{g:Nat}{a0 a1 a2 a3 a4 b0 b1 b2 b3 b4:Value}{t:TypeId}(h:w.heap[g]? = some (.cells #[a0,a1,a2,a3,a4] t (0,0))) :
  (((((w.setCell ⟨g,0,none⟩ b0).setCell ⟨g,1,none⟩ b1).setCell ⟨g,2,none⟩ b2).setCell ⟨g,3,none⟩ b3).setCell ⟨g,4,none⟩ b4).heap[g]? = some (.cells #[b0,b1,b2,b3,b4] t (0,0)):=
 heap_setCell_same _ g 4 _ t b4 (heap_setCell_same _ g 3 _ t b3 (heap_setCell_same _ g 2 _ t b2 (heap_setCell_same _ g 1 _ t b1 (heap_setCell_same w g 0 _ t b0 h))))
theorem pown_cases {B:Bk}{n:Nat}{rv:Nat->Value}{sl:List (Sv×Sv×Value)}{t:Nat}{s s':Sv×Sv×Value}(hs:sl[t]? = some s) (e:s'.2.2=s.2.2){k:Nat}(hk:POwn B n rv (sl.set t s') k):POwn B n rv sl k\/inBlock s'.1.v=some k\/inBlock s'.2.1.v=some k:=by
 rcases hk with hk | ⟨i,u,hu,hk⟩
 ·exact .inl (.inl ((pwr_set hs e k).1 hk))
 ·rw [List.getElem?_set] at hu
  by_cases e2:t=i
  ·rw [if_pos e2,if_pos (List.getElem?_eq_some_iff.1 hs).1] at hu
   cases hu
   exact .inr hk
  ·rw [if_neg e2] at hu
   exact .inl (.inr ⟨i,u,hu,hk⟩)
structure LendOk (M:PM) (a b:PT) (rk:Int->Int->Nat):Prop where
 ok:LOk rk M.sp M.leaves
 h3:M.sp<=3
 a0:0<=a.sp
 a1:a.sp<=M.sp-1
 b0:0<=b.sp
 b1:b.sp<=M.sp-1
 i0:-1<=a.item
 i1:a.item<=5
 w0:-1<=b.win
 w1:b.win<=5
theorem deliver_any (B:Bk) (S:Nat->Prop) (M:PM) (s r:Nat) (p q:PT) (rk:Int->Int->Nat) (rr:Nat) (stands:Bool) (w:World) (h:PRep w B S M) (hp:M.threads[s]? = some p) (hq:M.threads[r]? = some q) (hsr:s≠r) (h6:M.threads.length<=6) (lo:LendOk M p q rk) (hr:q.row=rr) (h4:rr < 4) (hl:(M.ln rr).length<=1000) (hn:(M.ln rr).Nodup) (hst:(q.st != 1)=!stands) :
  Calls Tryz.prog 134 #[.pointer (some ⟨B.x,0,none⟩),.int .i64 s,.int .i64 r] w fun e w'=>e=.returned (.tuple #[])/\PLeft B S (M.heard s r p q stands) w w':=by
 obtain ⟨cs,rv,sl,h,hS⟩:=h
 have hsl:=(List.getElem?_eq_some_iff.1 hp).1
 have hrl:=(List.getElem?_eq_some_iff.1 hq).1
 obtain ⟨ss,hss⟩:=h.sl_get hp
 obtain ⟨sr,hsr'⟩:=h.sl_get hq
 have lg:=h.lg
 have lx:=h.lx
 have hc1:=(h.cell 1).trans h.c1
 have k9:=(h.tcell hp hss 9 (by omega)).trans (show (prow p ss)[9]? = some (.slice ss.2.1.a ss.2.1.n ss.2.1.c) from rfl)
 obtain ⟨LP,hLP⟩:∃ LP,lendP M.leaves p.sp p.item p.rt q.sp q.win=LP:=⟨_,rfl⟩
 have HL:Hid (∀ w1,PmAt w1 B M cs rv sl->_):=fun w1 h1=>lend_any B M cs rv sl s r p q w1 rk h1 hp hq lo.ok lo.h3 lo.a0 lo.a1 lo.b0 lo.b1 lo.i0 lo.i1 lo.w0 lo.w1
 rw [hLP] at HL
 have HH:=hid (And.intro h (And.intro hS (And.intro hp (And.intro hq (And.intro hss (And.intro hsr' (And.intro hLP h6)))))))
 have HR:=hid (And.intro hr (And.intro h4 (And.intro hl hn)))
 generalize hm:M.threads.length=m at *
 have HM:=hid hm
 have hs':(s:Int) < (m:Int):=by omega
 have hr':(r:Int) < (m:Int):=by omega
 have HA:Hid (Calls Tryz.prog 165 #[.pointer (some ⟨B.x,0,none⟩),.pointer (some ⟨B.g,s*17,none⟩),.pointer (some ⟨B.g,r*17,none⟩)] w.drew.drew fun e w'=>e=.returned (.int .i64 LP.2)/\(PmAt w' B { M with leaves:=LP.1 } cs rv sl/\Fr (fun k=>k=B.gs) w w'/\w'.cell? ⟨B.g,s*17+9,none⟩=some (.slice ss.2.1.a ss.2.1.n ss.2.1.c))):=by
  refine (HL.out _ h.drew.drew).mono ?_
  rintro e w2 ⟨rfl,H2⟩
  exact ⟨rfl,H2.1,((Fr.refl _ w).drew.drew).trans H2.2,(H2.1.tcell (t:=s) hp hss 9 (by omega)).trans rfl⟩
 have HB:Hid (Calls Tryz.prog 165 #[.pointer (some ⟨B.x,0,none⟩),.pointer (some ⟨B.g,s*17,none⟩),.pointer (some ⟨B.g,r*17,none⟩)] (w.alloc (.cells #[.int .i64 0,.int .i64 0,.int .i64 0,.slice none 0 0,.int .i64 0] 50)).drew.drew fun e w'=>e=.returned (.int .i64 LP.2)/\(PmAt w' B { M with leaves:=LP.1 } cs rv sl/\Fr (fun k=>k=B.gs) w w'/\w'.cell? ⟨B.g,s*17+9,none⟩=some (.slice ss.2.1.a ss.2.1.n ss.2.1.c)/\w'.cell? ⟨w.heap.size,0,none⟩=some (.int .i64 0)/\w'.cell? ⟨w.heap.size,1,none⟩=some (.int .i64 0)/\w'.cell? ⟨w.heap.size,2,none⟩=some (.int .i64 0)/\w'.cell? ⟨w.heap.size,3,none⟩=some (.slice none 0 0)/\w'.cell? ⟨w.heap.size,4,none⟩=some (.int .i64 0)/\(∀ j,w'.frozen? ⟨w.heap.size,j,none⟩=false)/\w'.heap[w.heap.size]? = some (.cells #[.int .i64 0,.int .i64 0,.int .i64 0,.slice none 0 0,.int .i64 0] 50 (0,0)))):=by
  refine (HL.out _ ((h.alloc _).drew.drew)).mono ?_
  rintro e w2 ⟨rfl,H2⟩
  have hZ:=(H2.2.block w.heap.size (by simp [World.drew]) (by have:=h.ls;omega)).trans (heap_alloc_new w _)
  exact ⟨rfl,H2.1,((((Fr.refl _ w).alloc _).drew).drew).trans H2.2,(H2.1.tcell (t:=s) hp hss 9 (by omega)).trans rfl,(cell_of_row w2 _ 0 _ _ _ hZ).trans rfl,(cell_of_row w2 _ 1 _ _ _ hZ).trans rfl,(cell_of_row w2 _ 2 _ _ _ hZ).trans rfl,(cell_of_row w2 _ 3 _ _ _ hZ).trans rfl,(cell_of_row w2 _ 4 _ _ _ hZ).trans rfl,fun j=>frozen_of_row w2 _ j _ _ hZ,hZ⟩
 clear h hS hp hq hss hsr' hLP lo hm hr hl hn
 go_enter Tryz.func134,Tryz.ntmps134
 go_wp2
 go_region
 go_wp2
 go_cut [8] (fun t8 wc=>∃ b:Nat,t8=.pointer (some ⟨b,0,none⟩)/\w.heap.size<=b/\Hid (PmAt wc B { M with leaves:=LP.1 } cs rv sl/\wc.heap[b]? = some (.cells #[.int .i64 0,.int .i64 0,.int .i64 s,.slice ss.2.1.a ss.2.1.n ss.2.1.c,.int .i64 LP.2] 50 (0,0))/\Fr (fun k=>k=B.gs) w wc))
 case first=>
  go_region_with (first
   | (go_at_call 165;refine HA.out.mono ?_;rintro e w2 ⟨rfl,H2⟩;have k9':=H2.2.2;have lg2:=H2.1.lg;replace H2:=hid H2)
   | (go_at_call 165;refine HB.out.mono ?_;rintro e w2 ⟨rfl,H2⟩;have k9':=H2.2.2.1;have y0:=H2.2.2.2.1;have y1:=H2.2.2.2.2.1;have y2:=H2.2.2.2.2.2.1;have y3:=H2.2.2.2.2.2.2.1;have y4:=H2.2.2.2.2.2.2.2.1;have yf:=H2.2.2.2.2.2.2.2.2.1;have lg2:=H2.1.lg;replace H2:=hid H2))
  all_goals
   go_wp2
   go_meet
   case rel=>
    first
     | exact ⟨_,rfl,by have:=H2.out.2.1.size;omega,H2.out.1.alloc _,heap_alloc_new w2 _,H2.out.2.1.alloc _⟩
     | exact ⟨w.heap.size,rfl,Nat.le_refl _,H2.out.1.kept ((((((Fr.refl (fun k=>k=w.heap.size) w2).setCell (fun _=>rfl) _).setCell (fun _=>rfl) _).setCell (fun _=>rfl) _).setCell (fun _=>rfl) _).setCell (fun _=>rfl) _) (fun k hk e=>by have:=HH.out.1.lt hk;omega),set5c H2.out.2.2.2.2.2.2.2.2.2,(H2.out.2.1.mono (fun k _ e=>.inl e)).trans (((((((Fr.refl (fun k=>k=B.gs\/k=w.heap.size) w2).setCell (fun _=>.inr rfl) _).setCell (fun _=>.inr rfl) _).setCell (fun _=>.inr rfl) _).setCell (fun _=>.inr rfl) _).setCell (fun _=>.inr rfl) _)) |>.mono (fun k hk e=>e.elim id (fun e=>by omega))⟩
 case rest=>
 obtain ⟨b,rfl,hb,HC⟩:=hcut
 have hm:=HM.out
 have h6':=HH.out.2.2.2.2.2.2.2
 have p0:=HC.out.1
 have rs:=p0.trange (t:=s) HH.out.2.2.1 HH.out.2.2.2.2.1
 have g9:=rs 9 (.slice ss.2.1.a ss.2.1.n ss.2.1.c) rfl
 have g10:=rs 10 (.int .i64 p.item) rfl
 have g11:=rs 11 (.int .i64 p.rt) rfl
 have fg:=p0.tfro
 have k3:=(p0.tcell (t:=r) HH.out.2.2.2.1 HH.out.2.2.2.2.2.1 3 (by omega)).trans (show (prow q sr)[3]? = some (.int .i64 q.st) from rfl)
 have y0:=(cell_of_row wc b 0 _ _ _ HC.out.2.1).trans (show _=some (.int .i64 0) from rfl)
 have y1:=(cell_of_row wc b 1 _ _ _ HC.out.2.1).trans (show _=some (.int .i64 0) from rfl)
 have y2:=(cell_of_row wc b 2 _ _ _ HC.out.2.1).trans (show _=some (.int .i64 s) from rfl)
 have y3:=(cell_of_row wc b 3 _ _ _ HC.out.2.1).trans (show _=some (.slice ss.2.1.a ss.2.1.n ss.2.1.c) from rfl)
 have y4:=(cell_of_row wc b 4 _ _ _ HC.out.2.1).trans (show _=some (.int .i64 LP.2) from rfl)
 have hbg:b≠B.g:=by omega
 have hbx:b≠B.x:=by omega
 have n1:¬ (r*17+3=s*17+9):=by omega
 have n2:¬ (r*17+3=s*17+9+1):=by omega
 have n3:¬ (r*17+3=s*17+9+2):=by omega
 have A4:=p0.run (t:=s) (p:=p) (s:=ss) HH.out.2.2.1 HH.out.2.2.2.2.1 9 [.slice none 0 0,.int .i64 0,.int .i64 0] (fun p=>{ p with pw:=[],item:=0,rt:=0 }) (ss.1,Sv.nil,ss.2.2) (by simp) rfl rfl rfl (p0.wd s p ss HH.out.2.2.1 HH.out.2.2.2.2.1).1 (PWd.nil _ _ _ _ _)
 have el4:(({ M with leaves:=LP.1 }:PM).upd s (fun p=>{ p with pw:=[],item:=0,rt:=0 })).threads.length=m:=by rw [<- hm];simp [PM.upd]
 have u4:PWd (wc.setCells B.g (s*17+9) [.slice none 0 0,.int .i64 0,.int .i64 0]) B m rv (sl.set s (ss.1,Sv.nil,ss.2.2)) ss.2.1 p.pw:=by
  have u0:=(p0.wd s p ss HH.out.2.2.1 HH.out.2.2.2.2.1).2
  rw [show ({ M with leaves:=LP.1 }:PM).threads.length=m from hm] at u0
  exact (u0.of_g (A4.2.mono (fun k _ e=>.inl e))).set HH.out.2.2.2.2.1 rfl
 have hr4:(({ M with leaves:=LP.1 }:PM).upd s (fun p=>{ p with pw:=[],item:=0,rt:=0 })).threads[r]? = some q:=(get_modA (l:=M.threads) (t:=r) HH.out.2.2.1).trans ((if_neg (fun e=>hsr e.symm)).trans HH.out.2.2.2.1)
 have hsl4:(sl.set s (ss.1,Sv.nil,ss.2.2))[r]? = some sr:=by rw [List.getElem?_set_ne hsr];exact HH.out.2.2.2.2.2.1
 have F4:Fr (POwn B m rv sl) w (wc.setCells B.g (s*17+9) [.slice none 0 0,.int .i64 0,.int .i64 0]):=(HC.out.2.2.mono (fun k _ e=>.inl (.inr (.inr (.inl e))))).trans (A4.2.mono (fun k _ e=>.inl (.inr (.inl e))))
 have hM:∀ k,S k↔POwn B M.threads.length rv sl k:=by rw [hm];exact HH.out.2.1
 have uown:∀ k,inBlock ss.2.1.v=some k->POwn B m rv sl k:=fun k hk=>.inr ⟨s,ss,HH.out.2.2.2.2.1,.inr hk⟩
 have uown1:∀ k,inBlock ss.1.v=some k->POwn B m rv sl k:=fun k hk=>.inr ⟨s,ss,HH.out.2.2.2.2.1,.inl hk⟩
 have X:=hid (And.intro A4 (And.intro el4 (And.intro u4 (And.intro hr4 (And.intro hsl4 (And.intro F4 (And.intro hM (And.intro uown (And.intro uown1 (And.intro h6' hm))))))))))
 clear p0 rs A4 el4 u4 hr4 hsl4 F4 hM uown uown1 h6' hm HL HA HB
 cases stands with
 | true=>
  have O:=hid (over_at B _ cs rv _ r q sr 0 0 s LP.2 ss.2.1 p.pw _ X.out.1.1 X.out.2.2.2.1 X.out.2.2.2.2.1 (by rw [X.out.2.1];exact X.out.2.2.2.2.2.2.2.2.2.1) (by rw [X.out.2.1];exact X.out.2.2.1))
  simp only [Bool.not_true] at hst
  go_wp2_with (go_at_call 161;refine O.out.mono ?_;rintro e w5 ⟨rfl,H5⟩;replace H5:=hid H5)
  go_end0
  refine ⟨rfl,?_⟩
  have hm:=X.out.2.2.2.2.2.2.2.2.2.2
  subst hm
  have em:M.heard s r p q true=(({ M with leaves:=LP.1 }:PM).upd s (fun p=>{ p with pw:=[],item:=0,rt:=0 })).upd r (overP 0 s p.pw LP.2):=by unfold PM.heard;rw [HH.out.2.2.2.2.2.2.1];rfl
  rw [em]
  refine PLeft.of (M:=M) X.out.2.2.2.2.2.2.1 (by simp [PM.upd]) H5.out.1 (fun k hk=>?_) (T:=POwn B M.threads.length rv sl) (X.out.2.2.2.2.2.1.trans (H5.out.2.mono (fun k _ e=>.inl (.inr (.inl e))))) (fun k e=>e)
  rcases pown_cases X.out.2.2.2.2.1 (s':=(ss.2.1,Sv.nil,sr.2.2)) rfl hk with e | e | e
  ·rcases pown_cases HH.out.2.2.2.2.1 (s':=(ss.1,Sv.nil,ss.2.2)) rfl e with e | e | e
   ·exact .inl e
   ·exact .inl (X.out.2.2.2.2.2.2.2.2.1 k e)
   ·exact (in_nil e).elim
  ·exact .inl (X.out.2.2.2.2.2.2.2.1 k e)
  ·exact (in_nil e).elim
 | false=>
  simp only [Bool.not_false] at hst
  have ln4:(({ M with leaves:=LP.1 }:PM).upd s (fun p=>{ p with pw:=[],item:=0,rt:=0 })).ln=M.ln:=rfl
  have HRo:=hid (row_any B _ cs rv _ r q _ X.out.1.1 X.out.2.2.2.1 (by rw [X.out.2.1];exact X.out.2.2.2.2.2.2.2.2.2.1) rr HR.out.1 HR.out.2.1)
  have HFi:Hid (∀ w5,Below _ (wc.setCells B.g (s*17+9) [.slice none 0 0,.int .i64 0,.int .i64 0]) w5->_):=fun w5 hb5=>rowFirst_fine B _ cs rv _ rr r w5 (X.out.1.1.below hb5) HR.out.2.1 (by rw [ln4];exact HR.out.2.2.1) (by rw [ln4];exact HR.out.2.2.2)
  have y0':Hid (∀ w5:World,w5.heap[b]? = some (.cells #[.int .i64 0,.int .i64 0,.int .i64 s,.slice ss.2.1.a ss.2.1.n ss.2.1.c,.int .i64 LP.2] 50 (0,0))->w5.cell? ⟨b,0,none⟩=some (.int .i64 0)/\w5.cell? ⟨b,1,none⟩=some (.int .i64 0)/\w5.cell? ⟨b,2,none⟩=some (.int .i64 s)/\w5.cell? ⟨b,3,none⟩=some (.slice ss.2.1.a ss.2.1.n ss.2.1.c)/\w5.cell? ⟨b,4,none⟩=some (.int .i64 LP.2)):=fun w5 hb5=>⟨(cell_of_row w5 b 0 _ _ _ hb5).trans rfl,(cell_of_row w5 b 1 _ _ _ hb5).trans rfl,(cell_of_row w5 b 2 _ _ _ hb5).trans rfl,(cell_of_row w5 b 3 _ _ _ hb5).trans rfl,(cell_of_row w5 b 4 _ _ _ hb5).trans rfl⟩
  have hbl:b < wc.heap.size:=(Array.getElem?_eq_some_iff.1 HC.out.2.1).1
  have hb4:Hid ((wc.setCells B.g (s*17+9) [.slice none 0 0,.int .i64 0,.int .i64 0]).heap[b]? = some (.cells #[.int .i64 0,.int .i64 0,.int .i64 s,.slice ss.2.1.a ss.2.1.n ss.2.1.c,.int .i64 LP.2] 50 (0,0))):=(X.out.1.2.block b hbl hbg).trans HC.out.2.1
  have sz4:Hid (b < (wc.setCells B.g (s*17+9) [.slice none 0 0,.int .i64 0,.int .i64 0]).heap.size):=Nat.lt_of_lt_of_le hbl X.out.1.2.size
  have hrown:Hid (b≠B.x/\(rv rr).ownBlock≠some b):=⟨hbx,fun e=>by have:=(HH.out.1.rown HR.out.2.1).1.lt e;omega⟩
  go_wp2_with fail
  go_at_call 130
  refine HRo.out.mono ?_
  rintro e w5 ⟨rfl,hb5⟩
  have hx5:=hid ((hb5.block b sz4.out).trans hb4.out)
  replace hb5:=hid hb5
  go_wp2_with fail
  go_at_call 166
  refine (HFi.out _ hb5.out).mono ?_
  rintro e w6 ⟨rfl,v6,A6⟩
  replace A6:=hid A6
  have hx6:=hid ((A6.out.2.2.1.block b (Nat.lt_of_lt_of_le sz4.out hb5.out.size) (fun e=>e.elim hrown.out.1 hrown.out.2)).trans hx5.out)
  have yy:=y0'.out w6 hx6.out
  have v0:=yy.1
  have v1:=yy.2.1
  have v2:=yy.2.2.1
  have v3:=yy.2.2.2.1
  have v4:=yy.2.2.2.2
  have el6:((({ M with leaves:=LP.1 }:PM).upd s (fun p=>{ p with pw:=[],item:=0,rt:=0 })).setLn rr (r :: (M.ln rr).erase r)).threads.length=m:=X.out.2.1
  have u6:PWd w6 B m (fun s=>if s=rr then v6 else rv s) (sl.set s (ss.1,Sv.nil,ss.2.2)) ss.2.1 p.pw:=(X.out.2.2.1.kept (Fr.of_below hb5.out (fun _=>False)) (fun _ _ _=>.inl id) (fun _ _ a=>a)).row HR.out.2.1 A6.out.2.2.1 A6.out.2.2.2
  have h66:((({ M with leaves:=LP.1 }:PM).upd s (fun p=>{ p with pw:=[],item:=0,rt:=0 })).setLn rr (r :: (M.ln rr).erase r)).threads.length<=6:=by rw [el6];exact X.out.2.2.2.2.2.2.2.2.2.1
  have u66:PWd w6 B ((({ M with leaves:=LP.1 }:PM).upd s (fun p=>{ p with pw:=[],item:=0,rt:=0 })).setLn rr (r :: (M.ln rr).erase r)).threads.length (fun s=>if s=rr then v6 else rv s) (sl.set s (ss.1,Sv.nil,ss.2.2)) ss.2.1 p.pw:=by rw [el6];exact u6
  have O:=hid (over_at B _ _ _ _ r q sr 0 0 s LP.2 ss.2.1 p.pw _ A6.out.1 X.out.2.2.2.1 X.out.2.2.2.2.1 h66 u66)
  clear yy u6 el6 h66 u66
  go_wp2_with fail
  go_at_call 161
  refine O.out.mono ?_
  rintro e w7 ⟨rfl,H7⟩
  replace H7:=hid H7
  go_wp2
  go_end0
  refine ⟨rfl,?_⟩
  have hm:=X.out.2.2.2.2.2.2.2.2.2.2
  subst hm
  have a62:=A6.out.2.1
  rw [X.out.2.1] at a62
  have em:M.heard s r p q false=((({ M with leaves:=LP.1 }:PM).upd s (fun p=>{ p with pw:=[],item:=0,rt:=0 })).setLn rr (r :: (M.ln rr).erase r)).upd r (overP 0 s p.pw LP.2):=by
   unfold PM.heard
   rw [HH.out.2.2.2.2.2.2.1,HR.out.1]
   rfl
  rw [em]
  have z5:=hb5.out.size
  have z4:=X.out.2.2.2.2.2.1.size
  have F7:Fr (POwn B M.threads.length rv sl) w w7:=((X.out.2.2.2.2.2.1.trans (Fr.of_below hb5.out _)).trans (A6.out.2.2.1.mono (fun k _ e=>HH.out.1.rowS HR.out.2.1 k e))).trans (H7.out.2.mono (fun k _ e=>.inl (.inr (.inl e))))
  refine PLeft.of (M:=M) X.out.2.2.2.2.2.2.1 (by simp [PM.upd,PM.setLn]) H7.out.1 (fun k hk=>?_) (T:=POwn B M.threads.length rv sl) F7 (fun k e=>e)
  rcases pown_cases X.out.2.2.2.2.1 (s':=(ss.2.1,Sv.nil,sr.2.2)) rfl hk with e | e | e
  ·rcases a62 k e with e | e
   ·rcases pown_cases HH.out.2.2.2.2.1 (s':=(ss.1,Sv.nil,ss.2.2)) rfl e with e | e | e
    ·exact .inl e
    ·exact .inl (X.out.2.2.2.2.2.2.2.2.1 k e)
    ·exact (in_nil e).elim
   ·exact .inr (by omega)
  ·exact .inl (X.out.2.2.2.2.2.2.2.1 k e)
  ·exact (in_nil e).elim
open Go.RowKit
def none_:Nat->Prop:=fun _=>False
def only (i:Nat):Nat->Prop:=fun j=>j=i
theorem Rel.acts {act act':Nat->Prop}{M:PM}{K:RM}(h:Rel act M K) (e:∀ i,act' i↔act i):Rel act' M K:=by
 have:act'=act:=funext (fun i=>propext (e i))
 rw [this];exact h
section
variable {act:Nat->Prop}{M:PM}{K:RM}
theorem Rel.six (h:Rel act M K) (ft:K.Fit):M.threads.length<=6:=by rw [h.len];exact ft.six
theorem Rel.lnN (h:Rel act M K){r:Nat}(hr:r < 4):(M.ln r).Nodup:=(h.rows r hr).nodup
theorem Rel.lnL (h:Rel act M K) (ft:K.Fit){r:Nat}(hr:r < 4):(M.ln r).length<=1000:=by
 have:=nodup_lt K.threads.length (M.ln r) (h.lnN hr) (fun t ht=>by obtain ⟨u,hu,_⟩:=((h.rows r hr).mem t).1 ht;exact (List.getElem?_eq_some_iff.1 hu).1)
 have:=ft.six
 omega
theorem Rel.wlN (h:Rel act M K){r:Nat}{p:PT}(hp:M.threads[r]? = some p):p.wl.Nodup:=(h.wl r p hp).nodup
theorem Rel.wlL (h:Rel act M K) (ft:K.Fit){r:Nat}{p:PT}(hp:M.threads[r]? = some p):p.wl.length<=1000:=by
 have:=nodup_lt K.threads.length p.wl (h.wlN hp) (fun t ht=>by obtain ⟨u,hu,_⟩:=((h.wl r p hp).mem t).1 ht;exact (List.getElem?_eq_some_iff.1 hu).1)
 have:=ft.six
 omega
theorem Rel.rowN (h:Rel act M K) (ft:K.Fit){i:Nat}{t:Th}{p:PT}(ht:K.threads[i]? = some t) (hp:M.threads[i]? = some p):∃ r:Nat,p.row=r/\r < 4/\t.row.toNat=r:=by
 have f:=ft.th i t ht
 obtain ⟨r,hr⟩:=Int.eq_ofNat_of_zero_le f.r0
 have R:=h.th i t p ht hp
 exact ⟨r,by rw [R.row,hr],by have:=f.r1;omega,by omega⟩
theorem LOk.of (ft:K.Fit):∃ rk,LOk rk K.sp K.leaves:=by
 obtain ⟨r,hk⟩:=ft.kin
 exact ⟨r,ft.ap,hk,ft.lf⟩
end
theorem mCurrent_any (B:Bk) (S:Nat->Prop) (act:Nat->Prop) (M:PM) (K:RM) (w:World) (h:PRep w B S M) (R:Rel act M K) (ft:K.Fit) :
  Calls Tryz.prog 43 #[.pointer (some ⟨B.x,0,none⟩)] w fun e w'=>e=.returned (.int .i64 K.cur)/\w'=w:=by
 obtain ⟨cs,rv,sl,h,hS⟩:=h
 have HH:=hid (And.intro h (And.intro R ft))
 clear h R ft hS
 go_enter Tryz.func43,Tryz.ntmps43
 go_wp2
 go_loop [3] (fun i=>∃ k:Int,-1<=k/\k<=3/\i=.int .i64 k/\Hid (∀ s:Nat,k < s->s < 4->M.ln s=[])) (fun i=>(intOf i+1).toNat)
 case atStart=>exact ⟨3,by omega,by omega,rfl,fun s hs h4=>by omega⟩
 case round=>
  obtain ⟨k,hk,hk3,rfl,hno⟩:=hrel
  by_cases hlt:0<=k
  ·obtain ⟨r,rfl⟩:=Int.eq_ofNat_of_zero_le hlt
   have hr4:r < 4:=by omega
   have hr4':(r:Int) < 4:=by omega
   have C:=first_any B.x (2+r) (rv r) (M.ln r) w ((HH.out.1.cell (2+r)).trans (HH.out.1.row r hr4)) (HH.out.1.rown hr4).1 (HH.out.2.1.lnL HH.out.2.2 hr4)
   rcases hll:M.ln r with _ | ⟨t,rest⟩
   ·rw [hll] at C
    have HC:=hid C
    have HL:=hid hll
    clear C hll
    go_wp2_with (go_at_call 78;refine HC.out.mono ?_;rintro e w' ⟨rfl,rfl⟩)
    refine ⟨⟨(r:Int)-1,by omega,by omega,rfl,fun q hq h4=>?_⟩,by simp only [intOf];omega⟩
    by_cases e:q=r
    ·rw [e];exact HL.out
    ·exact hno.out q (by omega) h4
   ·rw [hll] at C
    have HC:=hid C
    have HL:=hid hll
    clear C hll
    go_wp2_with (go_at_call 78;refine HC.out.mono ?_;rintro e w' ⟨rfl,rfl⟩)
    go_ret
    exact ⟨ret_int (HH.out.2.1.cur_head HH.out.2.2 hr4 HL.out (fun q hq h4=>hno.out q (by omega) h4)).symm,rfl⟩
  ·have hkk:k=-1:=by omega
   subst hkk
   go_wp2
   go_ret
   exact ⟨ret_int (HH.out.2.1.cur_none HH.out.2.2 (fun r hr=>hno.out r (by omega) hr)).symm,rfl⟩
theorem caller_no (B:Bk) (S:Nat->Prop) (M:PM) (K:RM) (w:World) (h:PRep w B S M) (R:Rel none_ M K) (ft:K.Fit) (hc:K.cur < 0) :
  Calls Tryz.prog 82 #[.pointer (some ⟨B.x,0,none⟩)] w fun e w'=>e=.returned (.tuple #[.int .i64 (-1),.iface 160 (.agg #[.int .i64 2])])/\w'=w:=by
 have C:=mCurrent_any B S none_ M K w h R ft
 have ec:K.cur=-1:=by
  rcases curM_inv K.threads K.threads.length (Nat.le_refl _) with e | ⟨j,u,e,_⟩
  ·exact e
  ·have:K.cur=j:=e
   omega
 rw [ec] at C
 have HC:=hid C
 clear C h R ft hc ec
 go_enter Tryz.func82,Tryz.ntmps82
 go_wp2_with (go_at_call 43;refine HC.out.mono ?_;rintro e w2 ⟨rfl,rfl⟩)
 go_ret2
 exact ⟨rfl,rfl⟩
theorem caller_yes (B:Bk) (S:Nat->Prop) (M:PM) (K:RM) (t:Nat) (w:World) (h:PRep w B S M) (R:Rel none_ M K) (ft:K.Fit) (hc:K.cur=t) :
  Calls Tryz.prog 82 #[.pointer (some ⟨B.x,0,none⟩)] w fun e w'=>e=.returned (.tuple #[.int .i64 t,.nilIface])/\w'=w:=by
 have C:=mCurrent_any B S none_ M K w h R ft
 rw [hc] at C
 have HC:=hid C
 have d:((t:Int) == -1)=false:=by simp
 clear C h R ft hc
 go_enter Tryz.func82,Tryz.ntmps82
 go_wp2_with (go_at_call 43;refine HC.out.mono ?_;rintro e w2 ⟨rfl,rfl⟩)
 go_ret2
 exact ⟨rfl,rfl⟩
def KLeft (B:Bk) (S:Nat->Prop) (act:Nat->Prop) (K:RM) (w w':World):Prop:=∃ M,PLeft B S M w w'/\Rel act M K
theorem end_rel (B:Bk) (S:Nat->Prop) (act:Nat->Prop) (M:PM) (K:RM) (_n b:Nat) (code:Int) (t:Nat) (u:Th) (stands:Bool) (w:World) (h:PRep w B S M) (R:Rel act M K) (ft:K.Fit) (nm:K.Num b) (hu:K.threads[t]? = some u) (ha:u.st≠2\/act t) (hst:stands=true↔u.st=1) :
  Calls Tryz.prog 125 #[.pointer (some ⟨B.x,0,none⟩),.int .i64 t,.int .i64 code] w fun e w'=>e=.returned (.tuple #[])/\KLeft B S (Wo act t) (if stands=true then K.over t code else (K.over t code).toLast t) w w':=by
 obtain ⟨p,hp,RT⟩:=R.get hu
 obtain ⟨r,hr,h4,er⟩:=R.rowN ft hu hp
 by_cases e:stands=true
 ·have s1:=hst.1 e
  refine (end_ready B S M t p code w h hp (R.six ft) (by rw [RT.st];exact s1)).mono ?_
  rintro e' w' ⟨rfl,L⟩
  rw [if_pos e]
  exact ⟨rfl,_,L,R.over hu s1 code⟩
 ·refine (end_wait B S M t p code r w h hp (R.six ft) (by rw [RT.st];exact fun x=>e (hst.2 x)) hr h4 (R.lnL ft h4) (R.lnN h4)).mono ?_
  rintro e' w' ⟨rfl,L⟩
  rw [if_neg e]
  refine ⟨rfl,_,L,?_⟩
  have:=R.overLast ft nm hu ha code
  rw [er] at this
  exact this
theorem pause3_rel (B:Bk) (S:Nat->Prop) (act:Nat->Prop) (M:PM) (K:RM) (t:Nat) (u:Th) (w:World) (h:PRep w B S M) (R:Rel act M K) (ft:K.Fit) (hu:K.threads[t]? = some u) (ha:act t) :
  Calls Tryz.prog 136 #[.pointer (some ⟨B.x,0,none⟩),.int .i64 t,.int .i64 3] w fun e w'=>e=.returned (.tuple #[])/\KLeft B S (Wo act t) (K.waits t 3 (-1)) w w':=by
 obtain ⟨p,hp,RT⟩:=R.get hu
 obtain ⟨r,hr,h4,er⟩:=R.rowN ft hu hp
 refine (pause_any B S M t p 3 r w h hp (R.six ft) hr h4 (R.lnL ft h4) (R.lnN h4)).mono ?_
 rintro e' w' ⟨rfl,L⟩
 refine ⟨rfl,_,L,?_⟩
 have:=R.waits3 ft hu ha
 rw [er] at this
 exact this
theorem LendOk.of {act:Nat->Prop}{M:PM}{K:RM}(R:Rel act M K) (ft:K.Fit){s r:Nat}{a c:Th}{p q:PT}(ha:K.threads[s]? = some a) (hc:K.threads[r]? = some c) (hp:M.threads[s]? = some p) (hq:M.threads[r]? = some q) (par:Par a p) (hcr:c.st=3\/act r):∃ rk,LendOk M p q rk:=by
 obtain ⟨rk,ok⟩:=LOk.of ft
 have Ra:=R.th s a p ha hp
 have Rc:=R.th r c q hc hq
 have fa:=ft.th s a ha
 have fc:=ft.th r c hc
 have ta:=Rc.talk (hcr.imp (fun e=>by omega) id)
 refine ⟨rk,by rw [R.sp,R.lf];exact ok,by rw [R.sp];exact ft.sp3,by rw [Ra.sp];exact fa.s0,by rw [Ra.sp,R.sp];exact fa.s1,by rw [Rc.sp];exact fc.s0,by rw [Rc.sp,R.sp];exact fc.s1,?_,?_,ta.2.2.2.2,by rw [ta.2.1];exact fc.win⟩
 ·rw [par.2.1];split
  ·exact par.2.2.2.1
  ·omega
 ·rw [par.2.1];split
  ·exact par.2.2.2.2
  ·omega
theorem deliver_rel (B:Bk) (S:Nat->Prop) (act:Nat->Prop) (M:PM) (K:RM) (b:Nat) (s r:Nat) (a c:Th) (p:PT) (stands:Bool) (w:World) (h:PRep w B S M) (R:Rel act M K) (ft:K.Fit) (nm:K.Num b) (ha:K.threads[s]? = some a) (hc:K.threads[r]? = some c) (hp:M.threads[s]? = some p) (hsr:s≠r) (has:act s) (hcr:c.st=3\/act r) (par:Par a p) (hst:stands=true↔c.st=1) :
  Calls Tryz.prog 134 #[.pointer (some ⟨B.x,0,none⟩),.int .i64 s,.int .i64 r] w fun e w'=>e=.returned (.tuple #[])/\KLeft B S (Wo act r) (K.heard s r stands) w w':=by
 obtain ⟨q,hq,RT⟩:=R.get hc
 obtain ⟨rr,hr,h4,er⟩:=R.rowN ft hc hq
 obtain ⟨rk,lo⟩:=LendOk.of R ft ha hc hp hq par hcr
 have d:(q.st != 1)=!stands:=by
  rw [RT.st]
  cases stands with
  | true=>simp [hst.1 rfl]
  | false=>simp;exact fun e=>by have:=hst.2 e;simp at this
 refine (deliver_any B S M s r p q rk rr stands w h hp hq hsr (R.six ft) lo hr h4 (R.lnL ft h4) (R.lnN h4) d).mono ?_
 rintro e' w' ⟨rfl,L⟩
 exact ⟨rfl,_,L,R.heard ft nm ha hc hp hq hsr has hcr par stands hst⟩
theorem wlLeave_left (B:Bk) (S:Nat->Prop) (M:PM) (r t:Nat) (q:PT) (w:World) (h:PRep w B S M) (hq:M.threads[r]? = some q) (hl:q.wl.length<=1000) (hn:q.wl.Nodup) :
  Calls Tryz.prog 124 #[.pointer (some ⟨B.g,r*17+16,none⟩),.int .i64 t] w fun e w'=>e=.returned (.tuple #[])/\PLeft B S (M.upd r (fun p=>{ p with wl:=q.wl.erase t })) w w':=by
 obtain ⟨cs,rv,sl,h,hS⟩:=h
 obtain ⟨s,hs⟩:=h.sl_get hq
 refine (wlLeave_any B M cs rv sl r t q s w h hq hs hl hn).mono ?_
 rintro e w' ⟨rfl,v',a,o,f⟩
 exact ⟨rfl,PLeft.of (M:=M) hS (by simp [PM.upd]) a o f (fun k e=>e)⟩
theorem wlLast_left (B:Bk) (S:Nat->Prop) (M:PM) (r t:Nat) (q:PT) (w:World) (h:PRep w B S M) (hq:M.threads[r]? = some q) (hl:q.wl.length<=1000) (hn:q.wl.Nodup) :
  Calls Tryz.prog 131 #[.pointer (some ⟨B.g,r*17+16,none⟩),.int .i64 t] w fun e w'=>e=.returned (.tuple #[])/\PLeft B S (M.upd r (fun p=>{ p with wl:=q.wl.erase t ++ [t] })) w w':=by
 obtain ⟨cs,rv,sl,h,hS⟩:=h
 obtain ⟨s,hs⟩:=h.sl_get hq
 refine (wlLast_any B M cs rv sl r t q s w h hq hs hl hn).mono ?_
 rintro e w' ⟨rfl,v',a,o,f⟩
 exact ⟨rfl,PLeft.of (M:=M) hS (by simp [PM.upd]) a o f (fun k e=>e)⟩
theorem PRep.drew {w:World}{B:Bk}{S:Nat->Prop}{M:PM}(h:PRep w B S M):PRep w.drew B S M:=h.kept ((Fr.refl (fun _=>False) w).drew) (fun _ _ h=>h)
theorem PLeft.drewL {w w':World}{B:Bk}{S:Nat->Prop}{M:PM}(h:PLeft B S M w.drew w'):PLeft B S M w w':=⟨⟨h.1.choose,h.1.choose_spec.1,h.1.choose_spec.2⟩,((Fr.refl S w).drew).trans h.2⟩
theorem KLeft.drewL {w w':World}{B:Bk}{S:Nat->Prop}{act:Nat->Prop}{K:RM}(h:KLeft B S act K w.drew w'):KLeft B S act K w w':=by
 obtain ⟨M,h,R⟩:=h
 exact ⟨M,h.drewL,R⟩
theorem KLeft.acts {w w':World}{B:Bk}{S:Nat->Prop}{act act':Nat->Prop}{K:RM}(h:KLeft B S act K w w') (e:∀ i,act' i↔act i):KLeft B S act' K w w':=by
 obtain ⟨M,h,R⟩:=h
 exact ⟨M,h,R.acts e⟩
def RecvRel (n:Nat):Prop:=∀ (B:Bk) (S:Nat->Prop) (M:PM) (K:RM) (b t:Nat) (u:Th) (stands:Bool) (w:World),PRep w B S M->Rel (only t) M K->K.Fit->K.Num b->K.threads[t]? = some u->(stands=true↔u.st=1)->sending K.threads+(if u.st=2 then 0 else 1)<=n ->
 Calls Tryz.prog 85 #[.pointer (some ⟨B.x,0,none⟩),.int .i64 t] w fun e w'=>e=.returned (.tuple #[])/\KLeft B S none_ (K.recv n t stands) w w'
theorem goOn_rel (n:Nat) (HR:RecvRel n) (B:Bk) (S:Nat->Prop) (M:PM) (K:RM) (b t:Nat) (u:Th) (stands:Bool) (w:World) (h:PRep w B S M) (R:Rel (only t) M K) (ft:K.Fit) (nm:K.Num b) (hu:K.threads[t]? = some u) (hst:stands=true↔u.st=1) (hn:sending K.threads+(if u.st=2 then 0 else 1)<=n) :
  Calls Tryz.prog 135 #[.pointer (some ⟨B.x,0,none⟩),.int .i64 t] w fun e w'=>e=.returned (.tuple #[])/\KLeft B S none_ (K.goes n t stands) w w':=by
 obtain ⟨p,hp,RT⟩:=R.get hu
 have ta:=RT.talk (.inr rfl)
 have hg:K.goes n t stands=if u.frm≠-2 then K.recv n t stands else if stands=true then K.over t 0 else (K.over t 0).toLast t:=by unfold RM.goes;rw [hu]
 rw [hg]
 have hE:=end_rel B S (only t) M K n b 0 t u stands w h R ft nm hu (.inr rfl) hst
 have hRv:=HR B S M K b t u stands w h R ft nm hu hst hn
 obtain ⟨cs,rv,sl,h,hS⟩:=h
 obtain ⟨s,hs⟩:=h.sl_get hp
 have htl:=(List.getElem?_eq_some_iff.1 hp).1
 have hc1:=(h.cell 1).trans h.c1
 have k12:=(h.tcell hp hs 12 (by omega)).trans (show (prow p s)[12]? = some (.int .i64 p.frm) from rfl)
 rw [ta.1] at k12
 have h6:=R.six ft
 generalize hm:M.threads.length=m at *
 have ht':(t:Int) < (m:Int):=by omega
 have HX:=hid (And.intro hE hRv)
 have e0:∀ i,none_ i↔Wo (only t) t i:=fun i=>⟨fun h=>h.elim,fun h=>h.2 h.1⟩
 clear h R ft nm hu hS hs hp RT ta hE hRv hst hn hg hm HR
 generalize u.frm=f at *
 by_cases q:f=-2
 ·have d:(f == -2)=true:=by simpa using q
  rw [if_neg (by omega)]
  have HE:=hid HX.out.1
  obtain ⟨KK,hKK⟩:∃ KK,(if stands=true then K.over t 0 else (K.over t 0).toLast t)=KK:=⟨_,rfl⟩
  rw [hKK] at HE ⊢
  clear HX hKK
  go_enter Tryz.func135,Tryz.ntmps135
  go_wp2_with (go_at_call 125;refine HE.out.mono ?_;rintro e w2 ⟨rfl,L⟩;replace L:=hid L)
  ((try simp only [Exit.inBlock,Exit.then]);refine bodyPost_ret (results_none rfl _ _ _) rfl ?_)
  exact ⟨rfl,L.out.acts e0⟩
 ·have d:(f == -2)=false:=by simpa using q
  rw [if_pos q]
  have HE:=hid HX.out.2
  clear HX
  go_enter Tryz.func135,Tryz.ntmps135
  go_wp2_with (go_at_call 85;refine HE.out.mono ?_;rintro e w2 ⟨rfl,L⟩;replace L:=hid L)
  go_end0
  exact ⟨rfl,L.out⟩
theorem hearsB_eq (f:Int):(hearsB f)=(fun (i:Nat)=>f == -1 || f == (i:Int)):=rfl
theorem recv_rel (n:Nat):RecvRel n:=by
 induction n with
 | zero=>
  intro B S M K b t u stands w h R ft nm hu hst hn
  exfalso
  by_cases e:u.st=2
  ·have:=sending_pos hu e
   rw [if_pos e] at hn
   omega
  ·rw [if_neg e] at hn
   omega
 | succ n IH=>
  intro B S M K b t u stands w h R ft nm hu hst hn
  obtain ⟨p,hp,RT⟩:=R.get hu
  have ta:=RT.talk (.inr rfl)
  have SE:=R.sen ft hp u.frm (fun i e=>e)
  rw [<- hearsB_eq] at SE
  have h6:=R.six ft
  have htl:=(List.getElem?_eq_some_iff.1 hp).1
  have HH:=hid (And.intro h (And.intro R (And.intro ft (And.intro nm (And.intro hu (And.intro hst (And.intro hn hp)))))))
  have e0:Hid (∀ i,none_ i↔Wo (only t) t i):=fun i=>⟨fun h=>h.elim,fun h=>h.2 h.1⟩
  obtain ⟨cs,rv,sl,at_,hS⟩:=h
  obtain ⟨s0,hs0⟩:=at_.sl_get hp
  have hc1:=(at_.cell 1).trans at_.c1
  have k12:=(at_.tcell hp hs0 12 (by omega)).trans (show (prow p s0)[12]? = some (.int .i64 p.frm) from rfl)
  have k14:=(at_.tcell hp hs0 14 (by omega)).trans (show (prow p s0)[14]? = some (.int .i64 p.wait) from rfl)
  have k16:=(at_.tcell hp hs0 16 (by omega)).trans (show (prow p s0)[16]? = some s0.2.2 from rfl)
  rw [ta.1] at k12
  rw [ta.2.2.1] at k14
  have FO:=firstHears B.g (t*17+8) u.frm B.g (t*17+16) s0.2.2 p.wl w.drew k16 (at_.wown hp hs0).1.drew (R.wlL ft hp) k12
  rcases hf:p.wl.find? (hearsB u.frm) with _ | s
  ·rw [hf] at FO
   have sn:=SE.2 hf
   have er:K.recv (n+1) t stands=if u.wait≠0 then K.waits t 3 (-1) else if stands=true then K.over t 5 else (K.over t 5).toLast t:=recv_none hu (by rw [sn];omega)
   rw [er]
   have HE:=hid (end_rel B S (only t) M K n b 5 t u stands w.drew HH.out.1.drew R ft nm hu (.inr rfl) hst)
   have HP:=hid (pause3_rel B S (only t) M K t u w.drew HH.out.1.drew R ft hu rfl)
   have HFO:=hid FO
   generalize hm:M.threads.length=m at *
   have ht':(t:Int) < (m:Int):=by omega
   clear FO SE sn er hf R RT ta ft nm hu hst hn hp at_ hs0 hS hm IH HH
   by_cases q:u.wait=0
   ·have d:(u.wait == 0)=true:=by simpa using q
    rw [if_neg (by omega)]
    obtain ⟨KK,hKK⟩:∃ KK,(if stands=true then K.over t 5 else (K.over t 5).toLast t)=KK:=⟨_,rfl⟩
    rw [hKK] at HE ⊢
    generalize u.wait=uw at *
    clear hKK q HP
    go_enter Tryz.func85,Tryz.ntmps85
    go_wp2
    go_region_with (go_at_call 122;refine HFO.out.mono ?_;rintro e w2 ⟨rfl,rfl⟩)
    all_goals
     go_wp2_with (go_at_call 125;refine HE.out.mono ?_;rintro e w3 ⟨rfl,L⟩;replace L:=hid L)
     ((try simp only [Exit.inBlock,Exit.then]);refine bodyPost_ret (results_none rfl _ _ _) rfl ?_)
     exact ⟨rfl,(L.out.acts e0.out).drewL⟩
   ·have d:(u.wait == 0)=false:=by simpa using q
    rw [if_pos q]
    generalize u.wait=uw at *
    clear q HE
    go_enter Tryz.func85,Tryz.ntmps85
    go_wp2
    go_region_with (go_at_call 122;refine HFO.out.mono ?_;rintro e w2 ⟨rfl,rfl⟩)
    all_goals
     go_wp2_with (go_at_call 136;refine HP.out.mono ?_;rintro e w3 ⟨rfl,L⟩;replace L:=hid L)
     go_end0
     exact ⟨rfl,(L.out.acts e0.out).drewL⟩
  ·rw [hf] at FO
   obtain ⟨sn,hsm,hst2⟩:=SE.1 s hf
   have er:=recv_some (n:=n) (stands:=stands) hu sn
   rw [er]
   obtain ⟨a,ha,a1,a2,a3⟩:=((R.wl t p hp).mem s).1 hsm
   obtain ⟨ps,hps,RS⟩:=R.get ha
   have sd:=RS.send a1 a3
   have par:Par a ps:=⟨sd.2.2.1,sd.2.2.2.1,sd.2.2.2.2.1,sd.2.2.2.2.2.1,sd.2.2.2.2.2.2⟩
   have R2:=R.leaves hp hsm
   have hps2:(M.upd t (fun q=>{ q with wl:=p.wl.erase s })).threads[s]? = some ps:=(get_modA (l:=M.threads) (t:=s) hp).trans ((if_neg hst2).trans hps)
   have HLv:=hid (wlLeave_left B S M t s p w.drew HH.out.1.drew hp (R.wlL ft hp) (R.wlN hp))
   have HD:Hid (∀ S2 w2,PRep w2 B S2 (M.upd t (fun q=>{ q with wl:=p.wl.erase s }))->_):=fun S2 w2 h2=>deliver_rel B S2 (Wi (only t) s) _ K b s t a u ps stands w2 h2 R2 ft nm ha hu hps2 hst2 (.inr rfl) (.inr (.inl rfl)) par hst
   obtain ⟨F,hF1,hF2⟩:=heard_threads stands ha hu
   have hz:(K.heard s t stands).threads[s]? = some a:=by rw [hF2,modify_other F hst2];exact ha
   have hsend:sending (K.heard s t stands).threads+(if a.st=2 then 0 else 1)<=n:=by
    rw [hF2,if_pos a1]
    have:=sending_modify F hu (by omega)
    split at this <;> rename_i e
    ·rw [if_pos e] at hn;omega
    ·rw [if_neg e] at hn;omega
   have HG:Hid (∀ S3 M3 w3,PRep w3 B S3 M3->Rel (only s) M3 (K.heard s t stands)->_):=fun S3 M3 w3 h3 R3=>goOn_rel n IH B S3 M3 (K.heard s t stands) (b+1) s a false w3 h3 R3 (ft.heard s t stands) (num_clo.heard s t stands nm) hz ⟨fun e=>by simp at e,fun e=>by omega⟩ hsend
   have e1:Hid (∀ i,only s i↔Wo (Wi (only t) s) t i):=fun i=>⟨fun h=>⟨.inr h,fun e=>hst2 (h.symm.trans e)⟩,fun h=>h.1.elim (fun e=>absurd e h.2) id⟩
   have HFO:=hid FO
   generalize hm:M.threads.length=m at *
   have ht':(t:Int) < (m:Int):=by omega
   clear FO SE sn er hf R RT ta ft nm hu hst hn hp at_ hs0 hS hm IH HH ha hps RS sd par R2 hps2 hz hsend hF2 hF1 hsm a3
   go_enter Tryz.func85,Tryz.ntmps85
   go_wp2
   go_region_with (go_at_call 122;refine HFO.out.mono ?_;rintro e w2 ⟨rfl,rfl⟩)
   all_goals
    go_wp2_with (first
     | (go_at_call 124;refine HLv.out.mono ?_;rintro e w3 ⟨rfl,L⟩;replace L:=hid L;obtain ⟨⟨S3,h3,o3⟩,F3⟩:=L.out;replace h3:=hid h3;replace o3:=hid o3;replace F3:=hid F3)
     | (go_at_call 134;refine (HD.out S3 w3 h3.out).mono ?_;rintro e w4 ⟨rfl,L4⟩;replace L4:=hid L4;obtain ⟨M4,⟨⟨S4,h4,o4⟩,F4⟩,R4⟩:=L4.out;replace h4:=hid h4;replace o4:=hid o4;replace F4:=hid F4;replace R4:=hid R4)
     | (go_at_call 135;refine (HG.out S4 M4 w4 h4.out (R4.out.acts e1.out)).mono ?_;rintro e w5 ⟨rfl,L5⟩;replace L5:=hid L5))
    ((try simp only [Exit.inBlock,Exit.then]);refine bodyPost_ret (results_none rfl _ _ _) rfl ?_)
    refine ⟨rfl,KLeft.drewL ?_⟩
    obtain ⟨M5,⟨⟨S5,h5,o5⟩,F5⟩,R5⟩:=L5.out
    have z3:=F3.out.size
    have z4:=F4.out.size
    have o34:∀ i,S4 i->S i\/w.drew.heap.size<=i:=fun i e=>(o4.out i e).elim (o3.out i) (fun e=>.inr (Nat.le_trans z3 e))
    exact ⟨M5,⟨⟨S5,h5,fun i hi=>(o5 i hi).elim (o34 i) (fun e=>.inr (Nat.le_trans (Nat.le_trans z3 z4) e))⟩,(F3.out.next F4.out o3.out).next F5 o34⟩,R5⟩
open Go.RowKit
theorem coreHolds_any (a b:Int) (w:World):Calls Tryz.prog 137 #[.int .i64 a,.int .i64 b] w fun e w'=>e=.returned (.bool (bits .and .i64 a b == b))/\w'=w:=by
 go_enter Tryz.func137,Tryz.ntmps137
 go_wp2
 go_ret
 exact ⟨rfl,rfl⟩
theorem bits_one {x a:Int}(h:x=0\/x=1\/x=2\/x=3) (ha:a=1\/a=2):(bits .and .i64 x a == a)=(bits .and .i64 x a != 0):=by
 rcases h with rfl | rfl | rfl | rfl <;> rcases ha with rfl | rfl <;> rfl
theorem PLeft.th {w:World}{B:Bk}{S:Nat->Prop}{M:PM}{cs:Array Value}{rv:Nat->Value}{sl:List (Sv×Sv×Value)}(_h:PmAt w B M cs rv sl) (hS:∀ k,S k↔POwn B M.threads.length rv sl k){w':World}{f:PT->PT}{t:Nat}(h':PmAt w' B (M.upd t f) cs rv sl) (F:Fr (fun q=>q=B.g) w w'):PLeft B S (M.upd t f) w w':=
 PLeft.of (M:=M) hS (by simp [PM.upd]) h' (fun k hk=>.inl hk) F (fun k e=>.inl (.inr (.inl e)))
def lentP (bl:Bool) (M:PM) (t:Nat):PM:=if bl=true then M else M.upd t (fun p=>{ p with item:=-1 })
theorem lentR {M:PM}{K:RM}{t:Nat}{u:Th}(R:Rel (only t) M K) (hu:K.threads[t]? = some u) (bl:Bool):Rel (only t) (lentP bl M t) (K.lendsTo t bl):=by
 unfold lentP
 split
 ·exact R.lendsTo rfl hu bl
 ·exact (R.parcel (i:=t) rfl (fun p=>{ p with item:=-1 }) (fun p=>⟨p.tgt,p.pw,-1,p.rt,rfl⟩)).lendsTo rfl hu bl
theorem lentPar {M:PM} {t:Nat} {u:Th} {p:PT} {bl:Bool} (hp:M.threads[t]? = some p) (par:p.pw=u.mw/\p.item=u.item/\p.rt=u.rt/\-1<=u.item/\u.item<=5):∃ p2,(lentP bl M t).threads[t]? = some p2/\p2.wait=p.wait/\Par { u with lends:=bl } p2:=by
 unfold lentP
 cases bl with
 | true=>exact ⟨p,hp,rfl,par.1,by rw [par.2.1];rfl,par.2.2.1,par.2.2.2.1,par.2.2.2.2⟩
 | false=>exact ⟨{ p with item:=-1 },PM.upd_get hp _,rfl,par.1,rfl,par.2.2.1,par.2.2.2.1,par.2.2.2.2⟩
theorem lends_fit {K:RM}(ft:K.Fit) (t:Nat) (bl:Bool):(K.lendsTo t bl).Fit:=ft.upd t _ (fun x hx=>by have f:=ft.th t x hx;exact ⟨f.s0,f.s1,f.r0,f.r1,f.l0,f.l1,f.mw,f.ws,f.win,f.st,f.ot⟩)
theorem sendRest (B:Bk) (S:Nat->Prop) (M:PM) (K:RM) (b t r:Nat) (u c:Th) (p:PT) (w:World) (h:PRep w B S M) (R:Rel (only t) M K) (ft:K.Fit) (nm:K.Num b) (hu:K.threads[t]? = some u) (s1:u.st=1) (hp:M.threads[t]? = some p) (par:Par u p) (hc:K.threads[r]? = some c) (hrt:r≠t) :
  ∃ q,M.threads[r]? = some q/\w.cell? ⟨B.g,r*17+3,none⟩=some (.int .i64 c.st)/\w.cell? ⟨B.g,r*17+12,none⟩=some (.int .i64 q.frm)/\w.cell? ⟨B.g,t*17+14,none⟩=some (.int .i64 u.wait)/\w.cell? ⟨B.x,1,none⟩=some (.slice (some ⟨B.g,0,none⟩) M.threads.length B.c)/\(∀ j,w.frozen? ⟨B.g,j,none⟩=false)/\M.threads.length<=6 /\
   (c.st=3->q.frm=c.frm/\Calls Tryz.prog 134 #[.pointer (some ⟨B.x,0,none⟩),.int .i64 t,.int .i64 r] w fun e w1=>e=.returned (.tuple #[])/\∃ S1:Nat->Prop,(∀ i,S1 i->S i\/w.heap.size<=i)/\Fr S w w1/\Calls Tryz.prog 135 #[.pointer (some ⟨B.x,0,none⟩),.int .i64 t] w1 fun e w2=>e=.returned (.tuple #[])/\KLeft B S none_ (((K.deliver t r).toFirst r).goes 7 t true) w w2) /\
   (Calls Tryz.prog 125 #[.pointer (some ⟨B.x,0,none⟩),.int .i64 t,.int .i64 5] w fun e w1=>e=.returned (.tuple #[])/\KLeft B S none_ (K.over t 5) w w1) /\
   (∀ w0,w0=w.setCell ⟨B.g,t*17+8,none⟩ (.int .i64 r)->Calls Tryz.prog 131 #[.pointer (some ⟨B.g,r*17+16,none⟩),.int .i64 t] w0 fun e w1=>e=.returned (.tuple #[])/\Calls Tryz.prog 136 #[.pointer (some ⟨B.x,0,none⟩),.int .i64 t,.int .i64 2] w1 fun e w2=>e=.returned (.tuple #[])/\KLeft B S none_ (K.waits t 2 r) w w2):=by
 obtain ⟨q,hq,RC⟩:=R.get hc
 have RT:=R.th t u p hu hp
 have tt:=RT.talk (.inr rfl)
 have e0:∀ i,none_ i↔Wo (only t) t i:=fun i=>⟨fun h=>h.elim,fun h=>h.2 h.1⟩
 have hh:=h
 obtain ⟨cs,rv,sl,at_,hS⟩:=h
 obtain ⟨s0,hs0⟩:=at_.sl_get hp
 obtain ⟨sr,hsr⟩:=at_.sl_get hq
 have hrl:=(List.getElem?_eq_some_iff.1 hc).1
 refine ⟨q,hq,?_,?_,?_,(at_.cell 1).trans at_.c1,at_.tfro,R.six ft,fun c3=>?_,?_,fun w0 hw0=>?_⟩
 ·rw [<- RC.st];exact (at_.tcell hq hsr 3 (by omega)).trans rfl
 ·exact (at_.tcell hq hsr 12 (by omega)).trans rfl
 ·rw [<- tt.2.2.1];exact (at_.tcell hp hs0 14 (by omega)).trans rfl
 ·have tc:=RC.talk (.inl (by omega))
  refine ⟨tc.1,(deliver_rel B S (only t) M K b t r u c p false w hh R ft nm hu hc hp (Ne.symm hrt) rfl (.inl c3) par ⟨fun e=>by simp at e,fun e=>by omega⟩).mono ?_⟩
  rintro e w1 ⟨rfl,M1,⟨⟨S1,h1,o1⟩,F1⟩,R1⟩
  have R1':Rel (only t) M1 (K.heard t r false):=R1.acts (fun i=>⟨fun e=>⟨e,fun e'=>hrt (e'.symm.trans e)⟩,fun e=>e.1⟩)
  obtain ⟨F,hF1,hF2⟩:=heard_threads false hu hc
  have hz:(K.heard t r false).threads[t]? = some u:=by rw [hF2,modify_other F (Ne.symm hrt)];exact hu
  have hs7:sending (K.heard t r false).threads+(if u.st=2 then 0 else 1)<=7:=by
   have h1:sending (K.heard t r false).threads<=(K.heard t r false).threads.length:=List.length_filter_le _ _
   have h2:(K.heard t r false).threads.length=K.threads.length:=by rw [hF2];simp
   have:=ft.six
   split <;> omega
  refine ⟨rfl,S1,o1,F1,(goOn_rel 7 (recv_rel 7) B S1 M1 (K.heard t r false) (b+1) t u true w1 h1 R1' (ft.heard t r false) (num_clo.heard t r false nm) hz ⟨fun _=>s1,fun _=>rfl⟩ hs7).mono ?_⟩
  rintro e w2 ⟨rfl,M2,⟨⟨S2,h2,o2⟩,F2⟩,R2⟩
  refine ⟨rfl,M2,⟨⟨S2,h2,fun i hi=>(o2 i hi).elim (o1 i) (fun e=>.inr (Nat.le_trans F1.size e))⟩,F1.next F2 o1⟩,?_⟩
  exact R2
 ·refine (end_rel B S (only t) M K 0 b 5 t u true w hh R ft nm hu (.inr rfl) ⟨fun _=>s1,fun _=>rfl⟩).mono ?_
  rintro e w1 ⟨rfl,L⟩
  exact ⟨rfl,L.acts e0⟩
 ·subst hw0
  have A:=at_.setTh (t:=t) (j:=8) (fun p=>{ p with tgt:=(r:Int) }) (.int .i64 r) hp hs0 (by omega) rfl rfl rfl rfl
  have L1:PLeft B S (M.upd t (fun p=>{ p with tgt:=(r:Int) })) w (w.setCell ⟨B.g,t*17+8,none⟩ (.int .i64 r)):=PLeft.th at_ hS A.1 A.2
  obtain ⟨⟨S1,h1,o1⟩,F1⟩:=L1
  have hq1:(M.upd t (fun p=>{ p with tgt:=(r:Int) })).threads[r]? = some q:=(get_modA (l:=M.threads) (t:=r) hp).trans ((if_neg hrt).trans hq)
  refine (wlLast_left B S1 _ r t q _ h1 hq1 (R.wlL ft hq) (R.wlN hq)).mono ?_
  rintro e w1 ⟨rfl,⟨⟨S2,h2,o2⟩,F2⟩⟩
  refine ⟨rfl,?_⟩
  have em:(M.upd t (fun p=>{ p with tgt:=(r:Int) })).upd r (fun p=>{ p with wl:=q.wl.erase t ++ [t] })=(M.upd t (fun p=>{ p with tgt:=(r:Int) })).upd r (fun p=>{ p with wl:=p.wl.erase t ++ [t] }):=by
   have em2:=modify_at (f:=fun p:PT=>{ p with wl:=q.wl.erase t ++ [t] }) (h:=fun p:PT=>{ p with wl:=p.wl.erase t ++ [t] }) hq1 rfl
   exact congrArg (fun l=>({ M.upd t (fun p=>{ p with tgt:=(r:Int) }) with threads:=l }:PM)) em2
  rw [em] at h2
  obtain ⟨rr,hrr,h4,er⟩:=R.rowN ft hu hp
  have hp2:((M.upd t (fun p=>{ p with tgt:=(r:Int) })).upd r (fun p=>{ p with wl:=p.wl.erase t ++ [t] })).threads[t]? = some { p with tgt:=(r:Int) }:=(get_modA (t:=t) hq1).trans ((if_neg (Ne.symm hrt)).trans (PM.upd_get hp _))
  refine (pause_any B S2 _ t _ 2 rr w1 h2 hp2 (by have:=R.six ft;simpa [PM.upd] using this) hrr h4 (R.lnL ft h4) (R.lnN h4)).mono ?_
  rintro e w2 ⟨rfl,⟨⟨S3,h3,o3⟩,F3⟩⟩
  have o12:∀ i,S2 i->S i\/w.heap.size<=i:=fun i hi=>(o2 i hi).elim (o1 i) (fun e=>.inr (Nat.le_trans F1.size e))
  have F12:=F1.next F2 o1
  refine ⟨rfl,_,⟨⟨S3,h3,fun i hi=>(o3 i hi).elim (o12 i) (fun e=>.inr (Nat.le_trans F12.size e))⟩,F12.next F3 o12⟩,?_⟩
  have W:=R.waits2 ft nm hu rfl hp par (r:=r) hrl hrt
  rw [er] at W
  exact W.acts e0
theorem KLeft.from {w wc w':World}{B:Bk}{S:Nat->Prop}{act:Nat->Prop}{K:RM}(F:Fr S w wc) (h:KLeft B S act K wc w'):KLeft B S act K w w':=by
 obtain ⟨M,⟨⟨S',h',o'⟩,F'⟩,R⟩:=h
 exact ⟨M,⟨⟨S',h',fun i hi=>(o' i hi).imp id (fun e=>Nat.le_trans F.size e)⟩,F.trans F'⟩,R⟩
open Go.RowKit
def KR (w:World) (B:Bk) (S:Nat->Prop) (K:RM):Prop:=∃ M,PRep w B S M/\Rel none_ M K
theorem KR.below {w w':World}{B:Bk}{S:Nat->Prop}{K:RM}(h:KR w B S K) (hb:Below w.heap.size w w'):KR w' B S K:=by
 obtain ⟨M,h,R⟩:=h
 exact ⟨M,h.below hb,R⟩
structure MH (w:World) (B:Bk) (S:Nat->Prop) (M:PM) (K:RM) (cs:Array Value) (rv:Nat->Value) (sl:List (Sv×Sv×Value)) (t s n:Nat):Prop where
 m:PmAt w B M cs rv sl
 hS:∀ k,S k↔POwn B M.threads.length rv sl k
 r:Rel none_ M K
 ok:K.Ok n
 cur:K.cur=t
 h:K.home=s
 lt:s < M.sp.toNat
theorem MH.of {w:World}{B:Bk}{S:Nat->Prop}{K:RM}{n:Nat}(h:KR w B S K) (ok:K.Ok n) (hc:¬ K.cur < 0):∃ M cs rv sl t s,MH w B S M K cs rv sl t s n:=by
 obtain ⟨M,⟨cs,rv,sl,m,hS⟩,R⟩:=h
 obtain ⟨t,u,et,hu,_⟩:=K.cur_in hc
 have f:=ok.ft.th t u hu
 obtain ⟨s,hs⟩:=Int.eq_ofNat_of_zero_le f.s0
 have hh:K.home=s:=by unfold RM.home;rw [et,Int.toNat_natCast,hu];exact hs
 exact ⟨M,cs,rv,sl,t,s,m,hS,R,ok,et,hh,by rw [R.sp];have:=f.s1;omega⟩
section
variable {w w':World}{B:Bk}{S:Nat->Prop}{M:PM}{K:RM}{cs:Array Value}{rv:Nat->Value}{sl:List (Sv×Sv×Value)}{t s n:Nat}
theorem MH.rep (h:MH w B S M K cs rv sl t s n):PRep w B S M:=⟨cs,rv,sl,h.m,h.hS⟩
theorem MH.kr (h:MH w B S M K cs rv sl t s n):KR w B S K:=⟨M,h.rep,h.r⟩
theorem MH.below (h:MH w B S M K cs rv sl t s n) (hb:Below w.heap.size w w'):MH w' B S M K cs rv sl t s n:=⟨h.m.below hb,h.hS,h.r,h.ok,h.cur,h.h,h.lt⟩
theorem MH.slot (h:MH w B S M K cs rv sl t s n){k:Nat}(hk:k < 6):w.cell? ⟨B.gs,s*30+k*2,none⟩=some (.int .i64 (pa (findQ K.passes s k)))/\w.cell? ⟨B.gs,s*30+k*2+1,none⟩=some (.int .i64 (pb (findQ K.passes s k))):=by
 have:=h.m.slotC (s:=s) (j:=k) h.lt hk
 rw [h.r.ps] at this
 exact this
theorem MH.page (h:MH w B S M K cs rv sl t s n){k:Nat}(hk:k < 6):w.cell? ⟨B.gs,s*30+12+k*3,none⟩=some (.int .i64 (la (findLf K.leaves s k)))/\w.cell? ⟨B.gs,s*30+12+k*3+1,none⟩=some (.int .i64 (lb (findLf K.leaves s k)))/\w.cell? ⟨B.gs,s*30+12+k*3+2,none⟩=some (lu B.gs (findLf K.leaves s k)):=by
 have:=h.m.pageC (s:=s) (j:=k) h.lt hk
 rw [h.r.lf] at this
 exact this
end
theorem below_any (n b:Int) (w:World):Calls Tryz.prog 149 #[.int .i64 n,.int .i64 b] w fun e w'=>e=.returned (.bool (decide (0<=n/\n < b)))/\w'=w:=by
 by_cases h1:0<=n
 ·have d1:decide (0<=n)=true:=by simpa using h1
  go_enter Tryz.func149,Tryz.ntmps149
  go_wp2
  go_ret
  exact ⟨by simp [h1],rfl⟩
 ·have d1:decide (0<=n)=false:=by simpa using h1
  go_enter Tryz.func149,Tryz.ntmps149
  go_wp2
  go_ret
  exact ⟨by simp,rfl⟩
theorem pickP_no (g o:Nat) (t:Int) (w:World) (h:¬ (0<=t/\t < 6)) :
  Calls Tryz.prog 168 #[.slice (some ⟨g,o,none⟩) 6 6,.int .i64 t] w fun e w'=>e=.returned (.tuple #[.pointer none,.iface 160 (.agg #[.int .i64 3])])/\w'=w:=by
 have d:decide (0<=t/\t < 6)=false:=by simpa using h
 go_enter Tryz.func168,Tryz.ntmps168
 go_wp2_with (go_at_call 149;refine (below_any _ _ _).mono ?_;rintro e w' ⟨rfl,rfl⟩;rw [d])
 go_ret2
 exact ⟨rfl,rfl⟩
theorem pickP_yes (g o t:Nat) (w:World) (h:t < 6) :
  Calls Tryz.prog 168 #[.slice (some ⟨g,o,none⟩) 6 6,.int .i64 t] w fun e w'=>e=.returned (.tuple #[.pointer (some ⟨g,o+t*2,none⟩),.nilIface])/\w'=w:=by
 have d:decide (0<=(t:Int)/\(t:Int) < 6)=true:=by simp;omega
 have tm:(t:Int) < 6:=by omega
 go_enter Tryz.func168,Tryz.ntmps168
 go_wp2_with (go_at_call 149;refine (below_any _ _ _).mono ?_;rintro e w' ⟨rfl,rfl⟩;rw [d])
 go_ret2
 exact ⟨rfl,rfl⟩
theorem pickL_no (g o:Nat) (t:Int) (w:World) (h:¬ (0<=t/\t < 6)) :
  Calls Tryz.prog 169 #[.slice (some ⟨g,o,none⟩) 6 6,.int .i64 t] w fun e w'=>e=.returned (.tuple #[.pointer none,.iface 160 (.agg #[.int .i64 3])])/\w'=w:=by
 have d:decide (0<=t/\t < 6)=false:=by simpa using h
 go_enter Tryz.func169,Tryz.ntmps169
 go_wp2_with (go_at_call 149;refine (below_any _ _ _).mono ?_;rintro e w' ⟨rfl,rfl⟩;rw [d])
 go_ret2
 exact ⟨rfl,rfl⟩
theorem pickL_yes (g o t:Nat) (w:World) (h:t < 6) :
  Calls Tryz.prog 169 #[.slice (some ⟨g,o,none⟩) 6 6,.int .i64 t] w fun e w'=>e=.returned (.tuple #[.pointer (some ⟨g,o+t*3,none⟩),.nilIface])/\w'=w:=by
 have d:decide (0<=(t:Int)/\(t:Int) < 6)=true:=by simp;omega
 have tm:(t:Int) < 6:=by omega
 go_enter Tryz.func169,Tryz.ntmps169
 go_wp2_with (go_at_call 149;refine (below_any _ _ _).mono ?_;rintro e w' ⟨rfl,rfl⟩;rw [d])
 go_ret2
 exact ⟨rfl,rfl⟩
abbrev E2:Value:=.iface 160 (.agg #[.int .i64 2])
theorem e2_ne (w:World):(binOp .neq 114 E2 .nilIface).run Tryz.prog w=.ok (.bool true) w:=rfl
abbrev E3:Value:=.iface 160 (.agg #[.int .i64 3])
theorem e3_ne (w:World):(binOp .neq 114 E3 .nilIface).run Tryz.prog w=.ok (.bool true) w:=rfl
section
variable (B:Bk) (S:Nat->Prop) (K:RM) (w:World)
theorem home_no (h:KR w B S K) (ft:K.Fit) (hc:K.cur < 0):Calls Tryz.prog 167 #[.pointer (some ⟨B.x,0,none⟩)] w fun e w'=>e=.returned (.tuple #[.pointer none,E2])/\Below w.heap.size w w':=by
 obtain ⟨M,hm,R⟩:=h
 have HC:=hid (caller_no B S M K w hm R ft hc)
 have hne:=e2_ne
 clear hm R ft hc
 go_enter Tryz.func167,Tryz.ntmps167
 go_wp2_with (go_at_call 82;refine HC.out.mono ?_;rintro e w2 ⟨rfl,rfl⟩)
 go_ret2
 exact ⟨rfl,Below.refl _ _⟩
theorem slot_none (h:KR w B S K) (ft:K.Fit) (hc:K.cur < 0) (k:Int):Calls Tryz.prog 139 #[.pointer (some ⟨B.x,0,none⟩),.int .i64 k] w fun e w'=>e=.returned (.tuple #[.pointer none,E2])/\Below w.heap.size w w':=by
 have HC:=hid (home_no B S K w h ft hc)
 have hne:=e2_ne
 clear h ft hc
 go_enter Tryz.func139,Tryz.ntmps139
 go_wp2_with (go_at_call 167;refine HC.out.mono ?_;rintro e w2 ⟨rfl,B2⟩;replace B2:=hid B2)
 go_ret2
 exact ⟨rfl,B2.out⟩
theorem page_none (h:KR w B S K) (ft:K.Fit) (hc:K.cur < 0) (k:Int):Calls Tryz.prog 143 #[.pointer (some ⟨B.x,0,none⟩),.int .i64 k] w fun e w'=>e=.returned (.tuple #[.pointer none,E2])/\Below w.heap.size w w':=by
 have HC:=hid (home_no B S K w h ft hc)
 have hne:=e2_ne
 clear h ft hc
 go_enter Tryz.func143,Tryz.ntmps143
 go_wp2_with (go_at_call 167;refine HC.out.mono ?_;rintro e w2 ⟨rfl,B2⟩;replace B2:=hid B2)
 go_ret2
 exact ⟨rfl,B2.out⟩
theorem cell_none (h:KR w B S K) (ft:K.Fit) (hc:K.cur < 0) (k e r:Int):Calls Tryz.prog 118 #[.pointer (some ⟨B.x,0,none⟩),.int .i64 k,.int .i64 e,.int .i64 r] w fun e w'=>e=.returned (.tuple #[.pointer none,E2])/\Below w.heap.size w w':=by
 have HC:=hid (page_none B S K w h ft hc k)
 have hne:=e2_ne
 clear h ft hc
 go_enter Tryz.func118,Tryz.ntmps118
 go_wp2_with (go_at_call 143;refine HC.out.mono ?_;rintro e w2 ⟨rfl,B2⟩;replace B2:=hid B2)
 go_ret2
 exact ⟨rfl,B2.out⟩
theorem leaf_none (h:KR w B S K) (ft:K.Fit) (hc:K.cur < 0) (k:Int):Calls Tryz.prog 90 #[.pointer (some ⟨B.x,0,none⟩),.int .i64 k] w fun e w'=>e=.returned (.tuple #[.pointer none,E2])/\Below w.heap.size w w':=by
 have HC:=hid (page_none B S K w h ft hc k)
 have hne:=e2_ne
 clear h ft hc
 go_enter Tryz.func90,Tryz.ntmps90
 go_wp2_with (go_at_call 143;refine HC.out.mono ?_;rintro e w2 ⟨rfl,B2⟩;replace B2:=hid B2)
 go_ret2
 exact ⟨rfl,B2.out⟩
end
section
variable (B:Bk) (S:Nat->Prop) (M:PM) (K:RM) (cs:Array Value) (rv:Nat->Value) (sl:List (Sv×Sv×Value)) (t s n:Nat) (w:World)
theorem home_any (h:MH w B S M K cs rv sl t s n):Calls Tryz.prog 167 #[.pointer (some ⟨B.x,0,none⟩)] w fun e w'=>e=.returned (.tuple #[.pointer (some ⟨B.gs,s*30,none⟩),.nilIface])/\Below w.heap.size w w':=by
 have C:=caller_yes B S M K t w h.rep h.r h.ok.ft h.cur
 obtain ⟨j,u,e,hu,_⟩:=K.cur_in (by have:=h.cur;omega)
 have ej:j=t:=by have:=h.cur;omega
 subst ej
 obtain ⟨p,hp,RT⟩:=h.r.get hu
 have hus:p.sp=s:=by
  have:=h.h
  unfold RM.home at this
  rw [h.cur,Int.toNat_natCast,hu] at this
  rw [RT.sp];exact this
 obtain ⟨s0,hs0⟩:=h.m.sl_get hp
 have hc6:=(h.m.cell 6).trans h.m.c6
 have hc1:=(h.m.cell 1).trans h.m.c1
 have htl:=(List.getElem?_eq_some_iff.1 hp).1
 have k0:=(h.m.tcell hp hs0 0 (by omega)).trans (show (prow p s0)[0]? = some (.int .i64 p.sp) from rfl)
 rw [hus] at k0
 simp only [Nat.add_zero] at k0
 have h6:=h.r.six h.ok.ft
 have hlt:=h.lt
 generalize M.threads.length=m at *
 generalize M.sp.toNat=m2 at *
 have ht':(j:Int) < (m:Int):=by omega
 have hs':(s:Int) < (m2:Int):=by omega
 have HC:=hid C
 clear C h hu hus hp RT hs0 e
 go_enter Tryz.func167,Tryz.ntmps167
 go_wp2_with (go_at_call 82;refine HC.out.mono ?_;rintro e w2 ⟨rfl,rfl⟩)
 go_quiet (fail)
 go_wp2
 go_ret2
 exact ⟨rfl,below_drewN (Below.refl _ _) _⟩
theorem slot_yes (h:MH w B S M K cs rv sl t s n) (k:Nat) (hk:k < 6) :
  Calls Tryz.prog 139 #[.pointer (some ⟨B.x,0,none⟩),.int .i64 k] w fun e w'=>e=.returned (.tuple #[.pointer (some ⟨B.gs,s*30+k*2,none⟩),.nilIface])/\Below w.heap.size w w':=by
 have HC:=hid (home_any B S M K cs rv sl t s n w h)
 clear h
 go_enter Tryz.func139,Tryz.ntmps139
 go_wp2_with (first
  | (go_at_call 167;refine HC.out.mono ?_;rintro e w2 ⟨rfl,B2⟩;replace B2:=hid B2)
  | (go_at_call 168;refine (pickP_yes B.gs (s*30) k _ hk).mono ?_;rintro e w3 ⟨rfl,rfl⟩))
 go_ret2
 exact ⟨rfl,B2.out⟩
theorem slot_no (h:MH w B S M K cs rv sl t s n) (k:Int) (hk:¬ (0<=k/\k < 6)) :
  Calls Tryz.prog 139 #[.pointer (some ⟨B.x,0,none⟩),.int .i64 k] w fun e w'=>e=.returned (.tuple #[.pointer none,E3])/\Below w.heap.size w w':=by
 have HC:=hid (home_any B S M K cs rv sl t s n w h)
 have HK:=hid hk
 clear h hk
 go_enter Tryz.func139,Tryz.ntmps139
 go_wp2_with (first
  | (go_at_call 167;refine HC.out.mono ?_;rintro e w2 ⟨rfl,B2⟩;replace B2:=hid B2)
  | (go_at_call 168;refine (pickP_no B.gs (s*30) k _ HK.out).mono ?_;rintro e w3 ⟨rfl,rfl⟩))
 go_ret2
 exact ⟨rfl,B2.out⟩
theorem page_yes (h:MH w B S M K cs rv sl t s n) (k:Nat) (hk:k < 6) :
  Calls Tryz.prog 143 #[.pointer (some ⟨B.x,0,none⟩),.int .i64 k] w fun e w'=>e=.returned (.tuple #[.pointer (some ⟨B.gs,s*30+12+k*3,none⟩),.nilIface])/\Below w.heap.size w w':=by
 have HC:=hid (home_any B S M K cs rv sl t s n w h)
 clear h
 go_enter Tryz.func143,Tryz.ntmps143
 go_wp2_with (first
  | (go_at_call 167;refine HC.out.mono ?_;rintro e w2 ⟨rfl,B2⟩;replace B2:=hid B2)
  | (go_at_call 169;refine (pickL_yes B.gs (s*30+12) k _ hk).mono ?_;rintro e w3 ⟨rfl,rfl⟩))
 go_ret2
 exact ⟨rfl,B2.out⟩
theorem page_no (h:MH w B S M K cs rv sl t s n) (k:Int) (hk:¬ (0<=k/\k < 6)) :
  Calls Tryz.prog 143 #[.pointer (some ⟨B.x,0,none⟩),.int .i64 k] w fun e w'=>e=.returned (.tuple #[.pointer none,E3])/\Below w.heap.size w w':=by
 have HC:=hid (home_any B S M K cs rv sl t s n w h)
 have HK:=hid hk
 clear h hk
 go_enter Tryz.func143,Tryz.ntmps143
 go_wp2_with (first
  | (go_at_call 167;refine HC.out.mono ?_;rintro e w2 ⟨rfl,B2⟩;replace B2:=hid B2)
  | (go_at_call 169;refine (pickL_no B.gs (s*30+12) k _ HK.out).mono ?_;rintro e w3 ⟨rfl,rfl⟩))
 go_ret2
 exact ⟨rfl,B2.out⟩
end
end Go.Proofs.YteejjgbeknnmeaaGreatDoor
