import Derived.Test.YteejjgbeknnmeaaGreatDoorJ14
set_option maxRecDepth 100000
set_option maxHeartbeats 20000000
namespace Go.Proofs.YteejjgbeknnmeaaGreatDoor
open Go.RowKit
section
variable {w w':World}{B:Bk}{M:PM}{cs:Array Value}{rv:Nat->Value}{sl:List (Sv×Sv×Value)}
theorem pwr_set {n t:Nat}{s s':Sv×Sv×Value}(hs:sl[t]? = some s) (e:s'.2.2=s.2.2) (k:Nat):PWr B n rv (sl.set t s') k↔PWr B n rv sl k:=by
 unfold PWr;simp only [lnV_set hs e]
theorem PWd.set {n t:Nat}{s s':Sv×Sv×Value}{u:Sv}{l:List Int}(h:PWd w B n rv sl u l) (hs:sl[t]? = some s) (e:s'.2.2=s.2.2):PWd w B n rv (sl.set t s') u l:=⟨h.inl,fun k hk=>⟨(h.at_ k hk).1,fun g=>(h.at_ k hk).2 ((pwr_set hs e k).1 g)⟩⟩
theorem PWd.of_g {n:Nat}{u:Sv}{l:List Int}(h:PWd w B n rv sl u l) (F:Fr (fun k=>k=B.g\/k=B.gs) w w'):PWd w' B n rv sl u l:=h.kept F (fun _k _ a=>.inl (fun e=>a (e.elim (fun e=>.inr (.inl e)) (fun e=>.inr (.inr (.inl e)))))) (fun _ _ a=>a)
theorem PWd.row {n r:Nat}{u:Sv}{l:List Int}{v':Value}(h:PWd w B n rv sl u l) (hr:r < 4) (F:Fr (fun k=>k=B.x\/(rv r).ownBlock=some k) w w') (hn:∀ k,v'.ownBlock=some k->w.heap.size<=k\/(rv r).ownBlock=some k):PWd w' B n (fun s=>if s=r then v' else rv s) sl u l:=by
 have eJ:lnV rv sl r=rv r:=by unfold lnV;rw [if_pos hr]
 refine h.kept F (fun k _ a=>.inl (fun e=>a (e.elim .inl (fun e=>.inr (.inr (.inr ⟨r,by omega,by rw [eJ];exact e⟩)))))) (fun k hk a=>?_)
 rcases a with a | a | a | ⟨j,hj,a⟩
 ·exact .inl a
 ·exact .inr (.inl a)
 ·exact .inr (.inr (.inl a))
 ·refine .inr (.inr (.inr ?_))
  by_cases e:j=r
  ·subst e
   have e2:lnV (fun s=>if s=j then v' else rv s) sl j=v':=by unfold lnV;rw [if_pos hr];simp
   rw [e2] at a
   rcases hn k a with g | g
   ·omega
   ·exact ⟨j,hj,by rw [eJ];exact g⟩
  ·refine ⟨j,hj,?_⟩
   have e2:lnV (fun s=>if s=r then v' else rv s) sl j=lnV rv sl j:=by unfold lnV;simp [e]
   rw [e2] at a
   exact a
theorem rowFirst_fine (B:Bk) (M:PM) (cs:Array Value) (rv:Nat->Value) (sl:List (Sv×Sv×Value)) (r t:Nat) (w:World) (h:PmAt w B M cs rv sl) (hr:r < 4) (hl:(M.ln r).length<=1000) (hn:(M.ln r).Nodup) :
  Calls Tryz.prog 166 #[.pointer (some ⟨B.x,2+r,none⟩),.int .i64 t] w fun e w'=>e=.returned (.tuple #[])/\∃ v',PmAt w' B (M.setLn r (t :: (M.ln r).erase t)) (cs.setIfInBounds (2+r) v') (fun s=>if s=r then v' else rv s) sl/\(∀ k,POwn B M.threads.length (fun s=>if s=r then v' else rv s) sl k->POwn B M.threads.length rv sl k\/w.heap.size<=k)/\Fr (fun k=>k=B.x\/(rv r).ownBlock=some k) w w'/\∀ k,v'.ownBlock=some k->w.heap.size<=k\/(rv r).ownBlock=some k:=by
 refine (comeFirst_any B.x (2+r) (rv r) (M.ln r) t cs B.ty w h.blk (h.row r hr) (h.rown hr).1 hl hn (h.rown hr).2).mono ?_
 rintro e w' ⟨rfl,v',b,s,f,o⟩
 have R:=h.setRow hr b s f o
 exact ⟨rfl,v',R.1,R.2,f,o⟩
end
theorem set5c {w:World}{g:Nat}{a0 a1 a2 a3 a4 b0 b1 b2 b3 b4:Value}{t:TypeId}(h:w.heap[g]? = some (.cells #[a0,a1,a2,a3,a4] t (0,0))) :
  (((((w.setCell ⟨g,0,none⟩ b0).setCell ⟨g,1,none⟩ b1).setCell ⟨g,2,none⟩ b2).setCell ⟨g,3,none⟩ b3).setCell ⟨g,4,none⟩ b4).heap[g]? = some (.cells #[b0,b1,b2,b3,b4] t (0,0)):=
 heap_setCell_same _ g 4 _ t b4 (heap_setCell_same _ g 3 _ t b3 (heap_setCell_same _ g 2 _ t b2 (heap_setCell_same _ g 1 _ t b1 (heap_setCell_same w g 0 _ t b0 h))))
theorem pown_cases {B:Bk}{n:Nat}{rv:Nat->Value}{sl:List (Sv×Sv×Value)}{t:Nat}{s s':Sv×Sv×Value}(hs:sl[t]? = some s) (e:s'.2.2=s.2.2){k:Nat}(hk:POwn B n rv (sl.set t s') k):POwn B n rv sl k\/inBlock s'.1.v=some k\/inBlock s'.2.1.v=some k:=by
 rcases hk with hk | ⟨i,u,hu,hk⟩
 ·exact .inl (.inl ((pwr_set hs e k).1 hk))
 ·rw [List.getElem?_set] at hu
  by_cases e2:t=i
  ·rw [if_pos e2,if_pos (List.getElem?_eq_some_iff.1 hs).1] at hu
   cases hu
   exact .inr hk
  ·rw [if_neg e2] at hu
   exact .inl (.inr ⟨i,u,hu,hk⟩)
structure LendOk (M:PM) (a b:PT) (rk:Int->Int->Nat):Prop where
 ok:LOk rk M.sp M.leaves
 h3:M.sp<=3
 a0:0<=a.sp
 a1:a.sp<=M.sp-1
 b0:0<=b.sp
 b1:b.sp<=M.sp-1
 i0:-1<=a.item
 i1:a.item<=5
 w0:-1<=b.win
 w1:b.win<=5
theorem deliver_any (B:Bk) (S:Nat->Prop) (M:PM) (s r:Nat) (p q:PT) (rk:Int->Int->Nat) (rr:Nat) (stands:Bool) (w:World) (h:PRep w B S M) (hp:M.threads[s]? = some p) (hq:M.threads[r]? = some q) (hsr:s≠r) (h6:M.threads.length<=6) (lo:LendOk M p q rk) (hr:q.row=rr) (h4:rr < 4) (hl:(M.ln rr).length<=1000) (hn:(M.ln rr).Nodup) (hst:(q.st != 1)=!stands) :
  Calls Tryz.prog 134 #[.pointer (some ⟨B.x,0,none⟩),.int .i64 s,.int .i64 r] w fun e w'=>e=.returned (.tuple #[])/\PLeft B S (M.heard s r p q stands) w w':=by
 obtain ⟨cs,rv,sl,h,hS⟩:=h
 have hsl:=(List.getElem?_eq_some_iff.1 hp).1
 have hrl:=(List.getElem?_eq_some_iff.1 hq).1
 obtain ⟨ss,hss⟩:=h.sl_get hp
 obtain ⟨sr,hsr'⟩:=h.sl_get hq
 have lg:=h.lg
 have lx:=h.lx
 have hc1:=(h.cell 1).trans h.c1
 have k9:=(h.tcell hp hss 9 (by omega)).trans (show (prow p ss)[9]? = some (.slice ss.2.1.a ss.2.1.n ss.2.1.c) from rfl)
 obtain ⟨LP,hLP⟩:∃ LP,lendP M.leaves p.sp p.item p.rt q.sp q.win=LP:=⟨_,rfl⟩
 have HL:Hid (∀ w1,PmAt w1 B M cs rv sl->_):=fun w1 h1=>lend_any B M cs rv sl s r p q w1 rk h1 hp hq lo.ok lo.h3 lo.a0 lo.a1 lo.b0 lo.b1 lo.i0 lo.i1 lo.w0 lo.w1
 rw [hLP] at HL
 have HH:=hid (And.intro h (And.intro hS (And.intro hp (And.intro hq (And.intro hss (And.intro hsr' (And.intro hLP h6)))))))
 have HR:=hid (And.intro hr (And.intro h4 (And.intro hl hn)))
 generalize hm:M.threads.length=m at *
 have HM:=hid hm
 have hs':(s:Int) < (m:Int):=by omega
 have hr':(r:Int) < (m:Int):=by omega
 have HA:Hid (Calls Tryz.prog 165 #[.pointer (some ⟨B.x,0,none⟩),.pointer (some ⟨B.g,s*17,none⟩),.pointer (some ⟨B.g,r*17,none⟩)] w.drew.drew fun e w'=>e=.returned (.int .i64 LP.2)/\(PmAt w' B { M with leaves:=LP.1 } cs rv sl/\Fr (fun k=>k=B.gs) w w'/\w'.cell? ⟨B.g,s*17+9,none⟩=some (.slice ss.2.1.a ss.2.1.n ss.2.1.c))):=by
  refine (HL.out _ h.drew.drew).mono ?_
  rintro e w2 ⟨rfl,H2⟩
  exact ⟨rfl,H2.1,((Fr.refl _ w).drew.drew).trans H2.2,(H2.1.tcell (t:=s) hp hss 9 (by omega)).trans rfl⟩
 have HB:Hid (Calls Tryz.prog 165 #[.pointer (some ⟨B.x,0,none⟩),.pointer (some ⟨B.g,s*17,none⟩),.pointer (some ⟨B.g,r*17,none⟩)] (w.alloc (.cells #[.int .i64 0,.int .i64 0,.int .i64 0,.slice none 0 0,.int .i64 0] 50)).drew.drew fun e w'=>e=.returned (.int .i64 LP.2)/\(PmAt w' B { M with leaves:=LP.1 } cs rv sl/\Fr (fun k=>k=B.gs) w w'/\w'.cell? ⟨B.g,s*17+9,none⟩=some (.slice ss.2.1.a ss.2.1.n ss.2.1.c)/\w'.cell? ⟨w.heap.size,0,none⟩=some (.int .i64 0)/\w'.cell? ⟨w.heap.size,1,none⟩=some (.int .i64 0)/\w'.cell? ⟨w.heap.size,2,none⟩=some (.int .i64 0)/\w'.cell? ⟨w.heap.size,3,none⟩=some (.slice none 0 0)/\w'.cell? ⟨w.heap.size,4,none⟩=some (.int .i64 0)/\(∀ j,w'.frozen? ⟨w.heap.size,j,none⟩=false)/\w'.heap[w.heap.size]? = some (.cells #[.int .i64 0,.int .i64 0,.int .i64 0,.slice none 0 0,.int .i64 0] 50 (0,0)))):=by
  refine (HL.out _ ((h.alloc _).drew.drew)).mono ?_
  rintro e w2 ⟨rfl,H2⟩
  have hZ:=(H2.2.block w.heap.size (by simp [World.drew]) (by have:=h.ls;omega)).trans (heap_alloc_new w _)
  exact ⟨rfl,H2.1,((((Fr.refl _ w).alloc _).drew).drew).trans H2.2,(H2.1.tcell (t:=s) hp hss 9 (by omega)).trans rfl,(cell_of_row w2 _ 0 _ _ _ hZ).trans rfl,(cell_of_row w2 _ 1 _ _ _ hZ).trans rfl,(cell_of_row w2 _ 2 _ _ _ hZ).trans rfl,(cell_of_row w2 _ 3 _ _ _ hZ).trans rfl,(cell_of_row w2 _ 4 _ _ _ hZ).trans rfl,fun j=>frozen_of_row w2 _ j _ _ hZ,hZ⟩
 clear h hS hp hq hss hsr' hLP lo hm hr hl hn
 go_enter Tryz.func134,Tryz.ntmps134
 go_wp2
 go_region
 go_wp2
 go_cut [8] (fun t8 wc=>∃ b:Nat,t8=.pointer (some ⟨b,0,none⟩)/\w.heap.size<=b/\Hid (PmAt wc B { M with leaves:=LP.1 } cs rv sl/\wc.heap[b]? = some (.cells #[.int .i64 0,.int .i64 0,.int .i64 s,.slice ss.2.1.a ss.2.1.n ss.2.1.c,.int .i64 LP.2] 50 (0,0))/\Fr (fun k=>k=B.gs) w wc))
 case first=>
  go_region_with (first
   | (go_at_call 165;refine HA.out.mono ?_;rintro e w2 ⟨rfl,H2⟩;have k9':=H2.2.2;have lg2:=H2.1.lg;replace H2:=hid H2)
   | (go_at_call 165;refine HB.out.mono ?_;rintro e w2 ⟨rfl,H2⟩;have k9':=H2.2.2.1;have y0:=H2.2.2.2.1;have y1:=H2.2.2.2.2.1;have y2:=H2.2.2.2.2.2.1;have y3:=H2.2.2.2.2.2.2.1;have y4:=H2.2.2.2.2.2.2.2.1;have yf:=H2.2.2.2.2.2.2.2.2.1;have lg2:=H2.1.lg;replace H2:=hid H2))
  all_goals
   go_wp2
   go_meet
   case rel=>
    first
     | exact ⟨_,rfl,by have:=H2.out.2.1.size;omega,H2.out.1.alloc _,heap_alloc_new w2 _,H2.out.2.1.alloc _⟩
     | exact ⟨w.heap.size,rfl,Nat.le_refl _,H2.out.1.kept ((((((Fr.refl (fun k=>k=w.heap.size) w2).setCell (fun _=>rfl) _).setCell (fun _=>rfl) _).setCell (fun _=>rfl) _).setCell (fun _=>rfl) _).setCell (fun _=>rfl) _) (fun k hk e=>by have:=HH.out.1.lt hk;omega),set5c H2.out.2.2.2.2.2.2.2.2.2,(H2.out.2.1.mono (fun k _ e=>.inl e)).trans (((((((Fr.refl (fun k=>k=B.gs\/k=w.heap.size) w2).setCell (fun _=>.inr rfl) _).setCell (fun _=>.inr rfl) _).setCell (fun _=>.inr rfl) _).setCell (fun _=>.inr rfl) _).setCell (fun _=>.inr rfl) _)) |>.mono (fun k hk e=>e.elim id (fun e=>by omega))⟩
 case rest=>
 obtain ⟨b,rfl,hb,HC⟩:=hcut
 have hm:=HM.out
 have h6':=HH.out.2.2.2.2.2.2.2
 have p0:=HC.out.1
 have rs:=p0.trange (t:=s) HH.out.2.2.1 HH.out.2.2.2.2.1
 have g9:=rs 9 (.slice ss.2.1.a ss.2.1.n ss.2.1.c) rfl
 have g10:=rs 10 (.int .i64 p.item) rfl
 have g11:=rs 11 (.int .i64 p.rt) rfl
 have fg:=p0.tfro
 have k3:=(p0.tcell (t:=r) HH.out.2.2.2.1 HH.out.2.2.2.2.2.1 3 (by omega)).trans (show (prow q sr)[3]? = some (.int .i64 q.st) from rfl)
 have y0:=(cell_of_row wc b 0 _ _ _ HC.out.2.1).trans (show _=some (.int .i64 0) from rfl)
 have y1:=(cell_of_row wc b 1 _ _ _ HC.out.2.1).trans (show _=some (.int .i64 0) from rfl)
 have y2:=(cell_of_row wc b 2 _ _ _ HC.out.2.1).trans (show _=some (.int .i64 s) from rfl)
 have y3:=(cell_of_row wc b 3 _ _ _ HC.out.2.1).trans (show _=some (.slice ss.2.1.a ss.2.1.n ss.2.1.c) from rfl)
 have y4:=(cell_of_row wc b 4 _ _ _ HC.out.2.1).trans (show _=some (.int .i64 LP.2) from rfl)
 have hbg:b≠B.g:=by omega
 have hbx:b≠B.x:=by omega
 have n1:¬ (r*17+3=s*17+9):=by omega
 have n2:¬ (r*17+3=s*17+9+1):=by omega
 have n3:¬ (r*17+3=s*17+9+2):=by omega
 have A4:=p0.run (t:=s) (p:=p) (s:=ss) HH.out.2.2.1 HH.out.2.2.2.2.1 9 [.slice none 0 0,.int .i64 0,.int .i64 0] (fun p=>{ p with pw:=[],item:=0,rt:=0 }) (ss.1,Sv.nil,ss.2.2) (by simp) rfl rfl rfl (p0.wd s p ss HH.out.2.2.1 HH.out.2.2.2.2.1).1 (PWd.nil _ _ _ _ _)
 have el4:(({ M with leaves:=LP.1 }:PM).upd s (fun p=>{ p with pw:=[],item:=0,rt:=0 })).threads.length=m:=by rw [<- hm];simp [PM.upd]
 have u4:PWd (wc.setCells B.g (s*17+9) [.slice none 0 0,.int .i64 0,.int .i64 0]) B m rv (sl.set s (ss.1,Sv.nil,ss.2.2)) ss.2.1 p.pw:=by
  have u0:=(p0.wd s p ss HH.out.2.2.1 HH.out.2.2.2.2.1).2
  rw [show ({ M with leaves:=LP.1 }:PM).threads.length=m from hm] at u0
  exact (u0.of_g (A4.2.mono (fun k _ e=>.inl e))).set HH.out.2.2.2.2.1 rfl
 have hr4:(({ M with leaves:=LP.1 }:PM).upd s (fun p=>{ p with pw:=[],item:=0,rt:=0 })).threads[r]? = some q:=(get_modA (l:=M.threads) (t:=r) HH.out.2.2.1).trans ((if_neg (fun e=>hsr e.symm)).trans HH.out.2.2.2.1)
 have hsl4:(sl.set s (ss.1,Sv.nil,ss.2.2))[r]? = some sr:=by rw [List.getElem?_set_ne hsr];exact HH.out.2.2.2.2.2.1
 have F4:Fr (POwn B m rv sl) w (wc.setCells B.g (s*17+9) [.slice none 0 0,.int .i64 0,.int .i64 0]):=(HC.out.2.2.mono (fun k _ e=>.inl (.inr (.inr (.inl e))))).trans (A4.2.mono (fun k _ e=>.inl (.inr (.inl e))))
 have hM:∀ k,S k↔POwn B M.threads.length rv sl k:=by rw [hm];exact HH.out.2.1
 have uown:∀ k,inBlock ss.2.1.v=some k->POwn B m rv sl k:=fun k hk=>.inr ⟨s,ss,HH.out.2.2.2.2.1,.inr hk⟩
 have uown1:∀ k,inBlock ss.1.v=some k->POwn B m rv sl k:=fun k hk=>.inr ⟨s,ss,HH.out.2.2.2.2.1,.inl hk⟩
 have X:=hid (And.intro A4 (And.intro el4 (And.intro u4 (And.intro hr4 (And.intro hsl4 (And.intro F4 (And.intro hM (And.intro uown (And.intro uown1 (And.intro h6' hm))))))))))
 clear p0 rs A4 el4 u4 hr4 hsl4 F4 hM uown uown1 h6' hm HL HA HB
 cases stands with
 | true=>
  have O:=hid (over_at B _ cs rv _ r q sr 0 0 s LP.2 ss.2.1 p.pw _ X.out.1.1 X.out.2.2.2.1 X.out.2.2.2.2.1 (by rw [X.out.2.1];exact X.out.2.2.2.2.2.2.2.2.2.1) (by rw [X.out.2.1];exact X.out.2.2.1))
  simp only [Bool.not_true] at hst
  go_wp2_with (go_at_call 161;refine O.out.mono ?_;rintro e w5 ⟨rfl,H5⟩;replace H5:=hid H5)
  go_end0
  refine ⟨rfl,?_⟩
  have hm:=X.out.2.2.2.2.2.2.2.2.2.2
  subst hm
  have em:M.heard s r p q true=(({ M with leaves:=LP.1 }:PM).upd s (fun p=>{ p with pw:=[],item:=0,rt:=0 })).upd r (overP 0 s p.pw LP.2):=by unfold PM.heard;rw [HH.out.2.2.2.2.2.2.1];rfl
  rw [em]
  refine PLeft.of (M:=M) X.out.2.2.2.2.2.2.1 (by simp [PM.upd]) H5.out.1 (fun k hk=>?_) (T:=POwn B M.threads.length rv sl) (X.out.2.2.2.2.2.1.trans (H5.out.2.mono (fun k _ e=>.inl (.inr (.inl e))))) (fun k e=>e)
  rcases pown_cases X.out.2.2.2.2.1 (s':=(ss.2.1,Sv.nil,sr.2.2)) rfl hk with e | e | e
  ·rcases pown_cases HH.out.2.2.2.2.1 (s':=(ss.1,Sv.nil,ss.2.2)) rfl e with e | e | e
   ·exact .inl e
   ·exact .inl (X.out.2.2.2.2.2.2.2.2.1 k e)
   ·exact (in_nil e).elim
  ·exact .inl (X.out.2.2.2.2.2.2.2.1 k e)
  ·exact (in_nil e).elim
 | false=>
  simp only [Bool.not_false] at hst
  have ln4:(({ M with leaves:=LP.1 }:PM).upd s (fun p=>{ p with pw:=[],item:=0,rt:=0 })).ln=M.ln:=rfl
  have HRo:=hid (row_any B _ cs rv _ r q _ X.out.1.1 X.out.2.2.2.1 (by rw [X.out.2.1];exact X.out.2.2.2.2.2.2.2.2.2.1) rr HR.out.1 HR.out.2.1)
  have HFi:Hid (∀ w5,Below _ (wc.setCells B.g (s*17+9) [.slice none 0 0,.int .i64 0,.int .i64 0]) w5->_):=fun w5 hb5=>rowFirst_fine B _ cs rv _ rr r w5 (X.out.1.1.below hb5) HR.out.2.1 (by rw [ln4];exact HR.out.2.2.1) (by rw [ln4];exact HR.out.2.2.2)
  have y0':Hid (∀ w5:World,w5.heap[b]? = some (.cells #[.int .i64 0,.int .i64 0,.int .i64 s,.slice ss.2.1.a ss.2.1.n ss.2.1.c,.int .i64 LP.2] 50 (0,0))->w5.cell? ⟨b,0,none⟩=some (.int .i64 0)/\w5.cell? ⟨b,1,none⟩=some (.int .i64 0)/\w5.cell? ⟨b,2,none⟩=some (.int .i64 s)/\w5.cell? ⟨b,3,none⟩=some (.slice ss.2.1.a ss.2.1.n ss.2.1.c)/\w5.cell? ⟨b,4,none⟩=some (.int .i64 LP.2)):=fun w5 hb5=>⟨(cell_of_row w5 b 0 _ _ _ hb5).trans rfl,(cell_of_row w5 b 1 _ _ _ hb5).trans rfl,(cell_of_row w5 b 2 _ _ _ hb5).trans rfl,(cell_of_row w5 b 3 _ _ _ hb5).trans rfl,(cell_of_row w5 b 4 _ _ _ hb5).trans rfl⟩
  have hbl:b < wc.heap.size:=(Array.getElem?_eq_some_iff.1 HC.out.2.1).1
  have hb4:Hid ((wc.setCells B.g (s*17+9) [.slice none 0 0,.int .i64 0,.int .i64 0]).heap[b]? = some (.cells #[.int .i64 0,.int .i64 0,.int .i64 s,.slice ss.2.1.a ss.2.1.n ss.2.1.c,.int .i64 LP.2] 50 (0,0))):=(X.out.1.2.block b hbl hbg).trans HC.out.2.1
  have sz4:Hid (b < (wc.setCells B.g (s*17+9) [.slice none 0 0,.int .i64 0,.int .i64 0]).heap.size):=Nat.lt_of_lt_of_le hbl X.out.1.2.size
  have hrown:Hid (b≠B.x/\(rv rr).ownBlock≠some b):=⟨hbx,fun e=>by have:=(HH.out.1.rown HR.out.2.1).1.lt e;omega⟩
  go_wp2_with fail
  go_at_call 130
  refine HRo.out.mono ?_
  rintro e w5 ⟨rfl,hb5⟩
  have hx5:=hid ((hb5.block b sz4.out).trans hb4.out)
  replace hb5:=hid hb5
  go_wp2_with fail
  go_at_call 166
  refine (HFi.out _ hb5.out).mono ?_
  rintro e w6 ⟨rfl,v6,A6⟩
  replace A6:=hid A6
  have hx6:=hid ((A6.out.2.2.1.block b (Nat.lt_of_lt_of_le sz4.out hb5.out.size) (fun e=>e.elim hrown.out.1 hrown.out.2)).trans hx5.out)
  have yy:=y0'.out w6 hx6.out
  have v0:=yy.1
  have v1:=yy.2.1
  have v2:=yy.2.2.1
  have v3:=yy.2.2.2.1
  have v4:=yy.2.2.2.2
  have el6:((({ M with leaves:=LP.1 }:PM).upd s (fun p=>{ p with pw:=[],item:=0,rt:=0 })).setLn rr (r :: (M.ln rr).erase r)).threads.length=m:=X.out.2.1
  have u6:PWd w6 B m (fun s=>if s=rr then v6 else rv s) (sl.set s (ss.1,Sv.nil,ss.2.2)) ss.2.1 p.pw:=(X.out.2.2.1.kept (Fr.of_below hb5.out (fun _=>False)) (fun _ _ _=>.inl id) (fun _ _ a=>a)).row HR.out.2.1 A6.out.2.2.1 A6.out.2.2.2
  have h66:((({ M with leaves:=LP.1 }:PM).upd s (fun p=>{ p with pw:=[],item:=0,rt:=0 })).setLn rr (r :: (M.ln rr).erase r)).threads.length<=6:=by rw [el6];exact X.out.2.2.2.2.2.2.2.2.2.1
  have u66:PWd w6 B ((({ M with leaves:=LP.1 }:PM).upd s (fun p=>{ p with pw:=[],item:=0,rt:=0 })).setLn rr (r :: (M.ln rr).erase r)).threads.length (fun s=>if s=rr then v6 else rv s) (sl.set s (ss.1,Sv.nil,ss.2.2)) ss.2.1 p.pw:=by rw [el6];exact u6
  have O:=hid (over_at B _ _ _ _ r q sr 0 0 s LP.2 ss.2.1 p.pw _ A6.out.1 X.out.2.2.2.1 X.out.2.2.2.2.1 h66 u66)
  clear yy u6 el6 h66 u66
  go_wp2_with fail
  go_at_call 161
  refine O.out.mono ?_
  rintro e w7 ⟨rfl,H7⟩
  replace H7:=hid H7
  go_wp2
  go_end0
  refine ⟨rfl,?_⟩
  have hm:=X.out.2.2.2.2.2.2.2.2.2.2
  subst hm
  have a62:=A6.out.2.1
  rw [X.out.2.1] at a62
  have em:M.heard s r p q false=((({ M with leaves:=LP.1 }:PM).upd s (fun p=>{ p with pw:=[],item:=0,rt:=0 })).setLn rr (r :: (M.ln rr).erase r)).upd r (overP 0 s p.pw LP.2):=by
   unfold PM.heard
   rw [HH.out.2.2.2.2.2.2.1,HR.out.1]
   rfl
  rw [em]
  have z5:=hb5.out.size
  have z4:=X.out.2.2.2.2.2.1.size
  have F7:Fr (POwn B M.threads.length rv sl) w w7:=((X.out.2.2.2.2.2.1.trans (Fr.of_below hb5.out _)).trans (A6.out.2.2.1.mono (fun k _ e=>HH.out.1.rowS HR.out.2.1 k e))).trans (H7.out.2.mono (fun k _ e=>.inl (.inr (.inl e))))
  refine PLeft.of (M:=M) X.out.2.2.2.2.2.2.1 (by simp [PM.upd,PM.setLn]) H7.out.1 (fun k hk=>?_) (T:=POwn B M.threads.length rv sl) F7 (fun k e=>e)
  rcases pown_cases X.out.2.2.2.2.1 (s':=(ss.2.1,Sv.nil,sr.2.2)) rfl hk with e | e | e
  ·rcases a62 k e with e | e
   ·rcases pown_cases HH.out.2.2.2.2.1 (s':=(ss.1,Sv.nil,ss.2.2)) rfl e with e | e | e
    ·exact .inl e
    ·exact .inl (X.out.2.2.2.2.2.2.2.2.1 k e)
    ·exact (in_nil e).elim
   ·exact .inr (by omega)
  ·exact .inl (X.out.2.2.2.2.2.2.2.1 k e)
  ·exact (in_nil e).elim
end Go.Proofs.YteejjgbeknnmeaaGreatDoor
