import Derived.Test.YteejjgbeknnmeaaGreatDoorH16
import Derived.Test.YteejjgbeknnmeaaGreatDoorH15
import Derived.Test.YteejjgbeknnmeaaGreatDoorH17
import Derived.Test.YteejjgbeknnmeaaGreatDoorH11
set_option maxRecDepth 100000
set_option maxHeartbeats 20000000
namespace Go.Proofs.YteejjgbeknnmeaaGreatDoor
open Go.RowKit
theorem pickT_no (a:Option Addr) (m c:Nat) (t:Int) (w:World) (h:¬ (0<=t/\t < m)) :
  Calls Tryz.prog 119 #[.slice a m c,.int .i64 t] w fun e w'=>e=.returned (.tuple #[.pointer none,E3])/\w'=w:=by
 have d:decide (0<=t/\t < (m:Int))=false:=by simpa using h
 go_enter Tryz.func119,Tryz.ntmps119
 go_wp2_with (go_at_call 149;refine (below_any _ _ _).mono ?_;rintro e w' ⟨rfl,rfl⟩;rw [d])
 go_ret2
 exact ⟨rfl,rfl⟩
theorem pickT_yes (g m c t:Nat) (w:World) (h:t < m) :
  Calls Tryz.prog 119 #[.slice (some ⟨g,0,none⟩) m c,.int .i64 t] w fun e w'=>e=.returned (.tuple #[.pointer (some ⟨g,t*17,none⟩),.nilIface])/\w'=w:=by
 have d:decide (0<=(t:Int)/\(t:Int) < (m:Int))=true:=by simp;omega
 have tm:(t:Int) < (m:Int):=by omega
 go_enter Tryz.func119,Tryz.ntmps119
 go_wp2_with (go_at_call 149;refine (below_any _ _ _).mono ?_;rintro e w' ⟨rfl,rfl⟩;rw [d])
 go_ret2
 exact ⟨rfl,rfl⟩
theorem pickS_no (a:Option Addr) (m c:Nat) (t:Int) (w:World) (h:¬ (0<=t/\t < m)) :
  Calls Tryz.prog 140 #[.slice a m c,.int .i64 t] w fun e w'=>e=.returned (.tuple #[.pointer none,E3])/\w'=w:=by
 have d:decide (0<=t/\t < (m:Int))=false:=by simpa using h
 go_enter Tryz.func140,Tryz.ntmps140
 go_wp2_with (go_at_call 149;refine (below_any _ _ _).mono ?_;rintro e w' ⟨rfl,rfl⟩;rw [d])
 go_ret2
 exact ⟨rfl,rfl⟩
theorem pickS_yes (g m c t:Nat) (w:World) (h:t < m) :
  Calls Tryz.prog 140 #[.slice (some ⟨g,0,none⟩) m c,.int .i64 t] w fun e w'=>e=.returned (.tuple #[.pointer (some ⟨g,t*30,none⟩),.nilIface])/\w'=w:=by
 have d:decide (0<=(t:Int)/\(t:Int) < (m:Int))=true:=by simp;omega
 have tm:(t:Int) < (m:Int):=by omega
 go_enter Tryz.func140,Tryz.ntmps140
 go_wp2_with (go_at_call 149;refine (below_any _ _ _).mono ?_;rintro e w' ⟨rfl,rfl⟩;rw [d])
 go_ret2
 exact ⟨rfl,rfl⟩
abbrev told0:Array Value:=#[.int .i64 0,.int .i64 0,.int .i64 0,.slice none 0 0,.int .i64 0]
section
variable (B:Bk) (S:Nat->Prop) (K:RM) (n:Nat) (w:World)
theorem mLook_no (t:Int) (h:KR w B S K) (ok:K.Ok n) (ht:¬ (0<=t/\t < K.threads.length)) :
  Calls Tryz.prog 75 #[.pointer (some ⟨B.x,0,none⟩),.int .i64 t] w fun e w'=>∃ s,e=.returned (.tuple #[.agg told0,.iface 166 (.agg #[.string s,E3])])/\Below w.heap.size w w':=by
 obtain ⟨M,⟨cs,rv,sl,hm,hS⟩,R⟩:=h
 have hc1:=(hm.cell 1).trans hm.c1
 have lx:=hm.lx
 have h6:=R.six ok.ft
 rw [<- R.len] at ht
 have hne:=e3_ne
 generalize M.threads.length=m at *
 have HT:=hid ht
 clear hm hS ht R ok
 go_enter Tryz.func75,Tryz.ntmps75
 go_wp2_with (go_at_call 119;refine (pickT_no _ m B.c t _ HT.out).mono ?_;rintro e w1 ⟨rfl,rfl⟩)
 exact bodyPost_ret (results_row_tmp Tryz.results75 _ _ w.heap.size 50 _ (0,0) _ _ rfl (heap_alloc_new w _) Tryz.underlying50 rfl (by kernel_rfl) rfl) rfl ⟨_,rfl,(Below.refl _ w).alloc (Nat.le_refl _) _⟩
theorem told_range {M:PM}{cs:Array Value}{rv:Nat->Value}{sl:List (Sv×Sv×Value)}(hm:PmAt w B M cs rv sl){t:Nat}{p:PT}{s:Sv×Sv×Value}(hp:M.threads[t]? = some p) (hs:sl[t]? = some s):w.rangeAt B.g (t*17+3) [.int .i64 p.st,.int .i64 p.code,.int .i64 p.who,.slice s.1.a s.1.n s.1.c,.int .i64 p.got]:=fun j v hv=>by
 have hj:j < 5:=(List.getElem?_eq_some_iff.1 hv).1
 rw [Nat.add_assoc,hm.tcell hp hs (3+j) (by omega),Nat.add_comm 3 j]
 have h5:j=0\/j=1\/j=2\/j=3\/j=4:=by omega
 rcases h5 with rfl | rfl | rfl | rfl | rfl <;> simpa [prow] using hv
theorem mLook_yes (t:Nat) (u:Th) (h:KR w B S K) (ok:K.Ok n) (hu:K.threads[t]? = some u) :
  Calls Tryz.prog 75 #[.pointer (some ⟨B.x,0,none⟩),.int .i64 t] w fun e w'=>∃ a m c,e=.returned (.tuple #[.agg #[.int .i64 u.st,.int .i64 u.code,.int .i64 u.who,.slice a m c,.int .i64 u.got],.nilIface])/\Sl w' 2 1 (.slice a m c) (u.ws.map lnI)/\Below w.heap.size w w'/\∀ b,Value.ownBlock (.slice a m c)=some b->w.heap.size<=b:=by
 obtain ⟨M,⟨cs,rv,sl,hm,hS⟩,R⟩:=h
 obtain ⟨p,hp,RT⟩:=R.get hu
 obtain ⟨s,hs⟩:=hm.sl_get hp
 have hc1:=(hm.cell 1).trans hm.c1
 have lx:=hm.lx
 have h6:=R.six ok.ft
 have ht:=(List.getElem?_eq_some_iff.1 hp).1
 have R0:=told_range B w hm hp hs
 have I0:=(hm.wd t p s hp hs).1.inl
 have l0:p.ws.length<=1000:=by rw [RT.ws];have:=(ok.ft.th t u hu).ws;omega
 rw [RT.ws] at I0 l0
 rw [RT.st,RT.code,RT.who,RT.got] at R0
 obtain ⟨⟨sa,sn,sc⟩,s2⟩:=s
 simp only at R0
 have R1:=hid (World.rangeAt_alloc R0 (.cells told0 50))
 have CL:Hid (∀ w1:World,Fr (fun _=>False) w w1->Calls Tryz.prog 120 #[.slice sa sn sc] w1 fun e w'=>∃ a' n' c',e=.returned (.slice a' n' c')/\Sl w' 2 1 (.slice a' n' c') (u.ws.map lnI)/\Below w1.heap.size w1 w'/\∀ b,Value.ownBlock (.slice a' n' c')=some b->w1.heap.size<=b):=fun w1 F=>clone_any sa sn sc u.ws w1 (I0.kept (by omega) F (fun _ _ h=>h)) l0
 generalize M.threads.length=m at *
 clear hm hS R0 hu RT hp hs I0 l0 R ok
 go_enter Tryz.func75,Tryz.ntmps75
 go_wp2_with (first
  | (go_at_call 119;refine (pickT_yes B.g m B.c t _ ht).mono ?_;rintro e w1 ⟨rfl,rfl⟩)
  | (go_at_call 120;refine (CL.out _ (((Fr.refl _ w).alloc _).alloc _)).mono ?_;rintro e w2 ⟨a2,n2,c2,rfl,H2⟩;have b8:w2.heap[w.heap.size+1]? = some (.cells #[.int .i64 u.st,.int .i64 u.code,.int .i64 u.who,.slice sa sn sc,.int .i64 u.got] 50 (0,0)):=(H2.2.1.block _ (by simp)).trans (by simpa using heap_alloc_new (w.alloc (.cells told0 50)) (.cells #[.int .i64 u.st,.int .i64 u.code,.int .i64 u.who,.slice sa sn sc,.int .i64 u.got] 50));have b4:w2.heap[w.heap.size]? = some (.cells told0 50 (0,0)):=(H2.2.1.block _ (by simp only [size_alloc];omega)).trans (heap_alloc2_old w _ _);have HB:=hid (And.intro b8 (And.intro b4 H2));obtain ⟨⟨d0,d1,d2,d3,d4⟩,fz8⟩:=cells5 b8;obtain ⟨⟨x0,x1,x2,x3,x4⟩,fz4⟩:=cells5 b4;clear b8 b4 H2)
  | (with_reducible (show wpList _ _ _ (⟨some 27,.load 50 _,_,_,_,none⟩ :: _) _ _);go_must (refine wpList_load_mid rfl 50 _ rfl B.g (t*17+3) rfl _ _ R1.out Tryz.underlying50 rfl (by kernel_rfl) ?_)))
 obtain ⟨b8,b4,H2⟩:=HB.out
 have b4':(w2.setCell ⟨w.heap.size+1,3,none⟩ (.slice a2 n2 c2)).heap[w.heap.size]? = some (.cells told0 50 (0,0)):=by
  rw [heap_setCell_other _ _ _ _ (by simp)];exact b4
 have z2:=H2.2.1.size
 simp only [size_alloc] at z2
 have F:Fr (fun k=>k=w.heap.size\/k=w.heap.size+1) w2 ((((((w2.setCell ⟨w.heap.size+1,3,none⟩ (.slice a2 n2 c2)).setCell ⟨w.heap.size,0,none⟩ (.int .i64 u.st)).setCell ⟨w.heap.size,1,none⟩ (.int .i64 u.code)).setCell ⟨w.heap.size,2,none⟩ (.int .i64 u.who)).setCell ⟨w.heap.size,3,none⟩ (.slice a2 n2 c2)).setCell ⟨w.heap.size,4,none⟩ (.int .i64 u.got)):=
  ((((((Fr.refl _ w2).setCell (p:=⟨w.heap.size+1,3,none⟩) (fun _=>.inr rfl) _).setCell (p:=⟨w.heap.size,0,none⟩) (fun _=>.inl rfl) _).setCell (p:=⟨w.heap.size,1,none⟩) (fun _=>.inl rfl) _).setCell (p:=⟨w.heap.size,2,none⟩) (fun _=>.inl rfl) _).setCell (p:=⟨w.heap.size,3,none⟩) (fun _=>.inl rfl) _).setCell (p:=⟨w.heap.size,4,none⟩) (fun _=>.inl rfl) _
 have hn:∀ b,Value.ownBlock (.slice a2 n2 c2)=some b->w.heap.size+2<=b:=fun b hb=>by have:=H2.2.2 b hb;simpa using this
 refine bodyPost_ret (results_row_tmp Tryz.results75 _ _ w.heap.size 50 _ (0,0) _ _ rfl (set5 b4') Tryz.underlying50 rfl (by kernel_rfl) rfl) rfl ⟨a2,n2,c2,rfl,H2.1.kept F (fun k hk e=>?_),?_,fun b hb=>by have:=hn b hb;omega⟩
 ·have:=hn k hk;omega
 ·exact ((((Below.refl _ w).alloc (Nat.le_refl _) _).alloc (by simp) _).trans (H2.2.1.mono (by simp only [size_alloc];omega))).trans (F.to_below (by omega) (fun k e=>by omega))
theorem fr5 (w:World) (g:Nat) (a b c d e:Value):Fr (fun k=>k=g) w (((((w.setCell ⟨g,0,none⟩ a).setCell ⟨g,1,none⟩ b).setCell ⟨g,2,none⟩ c).setCell ⟨g,3,none⟩ d).setCell ⟨g,4,none⟩ e):=
 (((((Fr.refl (fun k=>k=g) w).setCell (p:=⟨g,0,none⟩) (fun _=>rfl) _).setCell (p:=⟨g,1,none⟩) (fun _=>rfl) _).setCell (p:=⟨g,2,none⟩) (fun _=>rfl) _).setCell (p:=⟨g,3,none⟩) (fun _=>rfl) _).setCell (p:=⟨g,4,none⟩) (fun _=>rfl) _
def LookOut (u:List Int) (w:World) (v:Value) (w':World):Prop:=Sl w' 2 1 v (u.map lnI)/\Below w.heap.size w w'/\∀ b,v.ownBlock=some b->w.heap.size<=b
theorem look_face (i0 i1 i2 i3:Int) (t:Int) (E:Value->Prop) (cd:Int) (ws:List Int) (x:Nat) (hg:∀ ev,E ev->∀ w':World,Fr (fun _=>False) (w.alloc (.cells told0 50)) w'->Calls Tryz.prog 45 #[ev] w' fun e w2=>e=.returned (.int .i64 cd)/\Below w'.heap.size w' w2)
  (C:Calls Tryz.prog 75 #[.pointer (some ⟨x,0,none⟩),.int .i64 t] (w.alloc (.cells told0 50)) fun e w'=>∃ a m c ev,e=.returned (.tuple #[.agg #[.int .i64 i0,.int .i64 i1,.int .i64 i2,.slice a m c,.int .i64 i3],ev])/\E ev/\LookOut ws (w.alloc (.cells told0 50)) (.slice a m c) w') :
  Calls Tryz.prog 40 #[.pointer (some ⟨x,0,none⟩),.int .i64 t] w fun e w'=>∃ v,e=.returned (.tuple #[.agg #[.int .i64 i0,.int .i64 i1,.int .i64 i2,v,.int .i64 i3],.int .i64 cd])/\LookOut ws w v w':=by
 have HC:=hid C
 have HG:=hid hg
 clear C hg
 go_enter Tryz.func40,Tryz.ntmps40
 go_wp2_with (go_at_call 75;refine HC.out.mono ?_;rintro e w2 ⟨a2,n2,c2,ev,rfl,hev,H2⟩;replace H2:=hid H2;have HV:=hid hev;clear hev)
 have hb2:w2.heap[w.heap.size]? = some (.cells told0 50 (0,0)):=(H2.out.2.1.block _ (by simp)).trans (heap_alloc_new w _)
 have lw2:w.heap.size < w2.heap.size:=(Array.getElem?_eq_some_iff.1 hb2).1
 have hn:∀ b,Value.ownBlock (.slice a2 n2 c2)=some b->w.heap.size+1<=b/\b < w2.heap.size:=fun b hb=>⟨by have:=H2.out.2.2 b hb;simpa using this,H2.out.1.lt hb⟩
 have B3:∀ w3:World,Below (w2.alloc (.cells #[.int .i64 i0,.int .i64 i1,.int .i64 i2,.slice a2 n2 c2,.int .i64 i3] 50)).drew.heap.size (w2.alloc (.cells #[.int .i64 i0,.int .i64 i1,.int .i64 i2,.slice a2 n2 c2,.int .i64 i3] 50)).drew w3->Hid (w3.heap[w2.heap.size]? = some (.cells #[.int .i64 i0,.int .i64 i1,.int .i64 i2,.slice a2 n2 c2,.int .i64 i3] 50 (0,0))/\w3.heap[w.heap.size]? = some (.cells told0 50 (0,0))/\Below w.heap.size w w3/\Sl w3 2 1 (.slice a2 n2 c2) (ws.map lnI)):=by
  intro w3 h3
  have hh:(w2.alloc (.cells #[.int .i64 i0,.int .i64 i1,.int .i64 i2,.slice a2 n2 c2,.int .i64 i3] 50)).drew.heap.size=w2.heap.size+1:=by simp
  rw [hh] at h3
  have hB:Below w.heap.size w w2:=(((Below.refl _ w).alloc (Nat.le_refl _) _).trans (H2.out.2.1.mono (by simp)))
  refine ⟨(h3.block _ (by omega)).trans (heap_alloc_new w2 _),(h3.block _ (by omega)).trans ((Below.heap_alloc w2 _ _ lw2).trans hb2),(hB.alloc (by omega) _).drew.trans (h3.mono (by omega)),?_⟩
  have hf:Fr (fun _=>False) w2 w3:=(((Fr.refl (fun _=>False) w2).alloc _).drew).trans (Fr.of_below (by rw [hh];exact h3) _)
  exact H2.out.1.kept hf (fun _ _ h=>h)
 have F2:Hid (Fr (fun _=>False) (w.alloc (.cells told0 50)) (w2.alloc (.cells #[.int .i64 i0,.int .i64 i1,.int .i64 i2,.slice a2 n2 c2,.int .i64 i3] 50)).drew):=((Fr.of_below H2.out.2.1 _).alloc _).drew
 have HB3:=hid (And.intro B3 hn)
 clear B3 hb2 hn
 go_region_with (go_at_call 45;refine (HG.out ev HV.out _ F2.out).mono ?_;rintro e w3 ⟨rfl,H3⟩;have G3:=HB3.out.1 w3 H3;have c30:=cells5 G3.out.1;have c31:=cells5 G3.out.2.1;have f30:=frozen_of_row w3 w.heap.size 0 _ _ G3.out.2.1;have f31:=frozen_of_row w3 w.heap.size 1 _ _ G3.out.2.1;have f32:=frozen_of_row w3 w.heap.size 2 _ _ G3.out.2.1;have f33:=frozen_of_row w3 w.heap.size 3 _ _ G3.out.2.1;have f34:=frozen_of_row w3 w.heap.size 4 _ _ G3.out.2.1;obtain ⟨⟨c300,c301,c302,c303,c304⟩,_⟩:=c30;obtain ⟨⟨c310,c311,c312,c313,c314⟩,_⟩:=c31;clear H3)
 all_goals
  try go_wp2
  refine bodyPost_ret (results_row_tmp Tryz.results40 _ _ w.heap.size 50 _ (0,0) _ _ rfl (set5 G3.out.2.1) Tryz.underlying50 rfl (by kernel_rfl) rfl) rfl ⟨_,rfl,G3.out.2.2.2.kept (fr5 w3 _ _ _ _ _ _) (fun k hk e=>by have:=(HB3.out.2 k hk).1;omega),((((G3.out.2.2.1.setCell (p:=⟨w.heap.size,0,none⟩) (Nat.le_refl _) _).setCell (p:=⟨w.heap.size,1,none⟩) (Nat.le_refl _) _).setCell (p:=⟨w.heap.size,2,none⟩) (Nat.le_refl _) _).setCell (p:=⟨w.heap.size,3,none⟩) (Nat.le_refl _) _).setCell (p:=⟨w.heap.size,4,none⟩) (Nat.le_refl _) _,fun b hb=>by have:=(HB3.out.2 b hb).1;omega⟩
theorem KR.alloc {w:World}{B:Bk}{S:Nat->Prop}{K:RM}(h:KR w B S K) (o:Obj):KR (w.alloc o) B S K:=h.below ((Below.refl _ w).alloc (Nat.le_refl _) _)
theorem Gl.free {w w':World}(h:Gl w) (hf:Fr (fun _=>False) w w'):Gl w':=h.below (hf.to_below (Nat.le_refl _) (fun _ h=>h.elim))
theorem fLook_yes (t:Nat) (u:Th) (h:KR w B S K) (ok:K.Ok n) (hu:K.threads[t]? = some u) :
  Calls Tryz.prog 40 #[.pointer (some ⟨B.x,0,none⟩),.int .i64 t] w fun e w'=>∃ v,e=.returned (.tuple #[.agg #[.int .i64 u.st,.int .i64 u.code,.int .i64 u.who,v,.int .i64 u.got],.int .i64 0])/\LookOut u.ws w v w':=
 look_face w u.st u.code u.who u.got t (fun ev=>ev=.nilIface) 0 u.ws B.x (fun ev hev w' _=>by rw [hev];exact number_nil w') ((mLook_yes B S K n _ t u (h.alloc _) ok hu).mono (by rintro e w' ⟨a,m,c,rfl,H⟩;exact ⟨a,m,c,_,rfl,rfl,H⟩))
theorem fLook_no (t:Int) (hg:Gl w) (h:KR w B S K) (ok:K.Ok n) (ht:¬ (0<=t/\t < K.threads.length)) :
  Calls Tryz.prog 40 #[.pointer (some ⟨B.x,0,none⟩),.int .i64 t] w fun e w'=>∃ v,e=.returned (.tuple #[.agg #[.int .i64 0,.int .i64 0,.int .i64 0,v,.int .i64 0],.int .i64 3])/\LookOut [] w v w':=by
 refine look_face w 0 0 0 0 t (fun ev=>∃ s,ev=.iface 166 (.agg #[.string s,E3])) 3 [] B.x ?_ ((mLook_no B S K n _ t (h.alloc _) ok ht).mono ?_)
 ·rintro ev ⟨s,rfl⟩ w' hf
  exact number_met1 s 3 w' ((hg.alloc _).free hf)
 ·rintro e w' ⟨s,rfl,H⟩
  exact ⟨none,0,0,_,rfl,⟨s,rfl⟩,Sl.nil _ _ _,H,fun b hb=>by simp [Value.ownBlock] at hb⟩
end
open Go.RowKit
theorem find_mem {L:List (Int×Int×Int×Int)}{s n:Int}{p:Int×Int×Int×Int}(h:findQ L s n=some p):(∃ i:Nat,L[i]? = some p)/\p.1=s/\p.2.1=n:=by
 unfold findQ at h
 have h1:=List.mem_of_find?_eq_some h
 have h2:=List.find?_some h
 simp at h2
 exact ⟨List.mem_iff_getElem?.1 h1,h2⟩
theorem told_no {L:List (Int×Int×Int×Int)}(hr:∀ (i:Nat) p,L[i]? = some p->p.2.2.2≠0){s:Int}{k:Nat}(h:pb (findQ L s k)=0):told L s (k+1)=told L s k:=by
 rcases hf:findQ L s k with _ | p
 ·simp [told,hf]
 ·obtain ⟨⟨i,hi⟩,_⟩:=find_mem hf
  rw [hf] at h
  exact absurd h (hr i p hi)
theorem told_yes {L:List (Int×Int×Int×Int)}{s:Int}{k:Nat}(h:pb (findQ L s k)≠0):(told L s (k+1)).map qRow=(told L s k).map qRow ++ [[.int .i64 s,.int .i64 k,.int .i64 (pa (findQ L s k)),.int .i64 (pb (findQ L s k))]]:=by
 rcases hf:findQ L s k with _ | p
 ·rw [hf] at h;exact absurd rfl h
 ·obtain ⟨_,h1,h2⟩:=find_mem hf
  simp [told,hf,qRow,pa,pb,h1,h2]
theorem Tryz.ix229_0 (a0 a1 a2 a3 a4 a5 a6 a7 a8 a9 a10 a11:Int) (w:World):(Instr.index 229 (.agg #[.int .i64 a0,.int .i64 a1,.int .i64 a2,.int .i64 a3,.int .i64 a4,.int .i64 a5,.int .i64 a6,.int .i64 a7,.int .i64 a8,.int .i64 a9,.int .i64 a10,.int .i64 a11]) (.int .i64 0)).run Tryz.prog w=.ok (.agg #[.int .i64 a0,.int .i64 a1]) w:=by kernel_rfl
theorem Tryz.ix229_1 (a0 a1 a2 a3 a4 a5 a6 a7 a8 a9 a10 a11:Int) (w:World):(Instr.index 229 (.agg #[.int .i64 a0,.int .i64 a1,.int .i64 a2,.int .i64 a3,.int .i64 a4,.int .i64 a5,.int .i64 a6,.int .i64 a7,.int .i64 a8,.int .i64 a9,.int .i64 a10,.int .i64 a11]) (.int .i64 1)).run Tryz.prog w=.ok (.agg #[.int .i64 a2,.int .i64 a3]) w:=by kernel_rfl
theorem Tryz.ix229_2 (a0 a1 a2 a3 a4 a5 a6 a7 a8 a9 a10 a11:Int) (w:World):(Instr.index 229 (.agg #[.int .i64 a0,.int .i64 a1,.int .i64 a2,.int .i64 a3,.int .i64 a4,.int .i64 a5,.int .i64 a6,.int .i64 a7,.int .i64 a8,.int .i64 a9,.int .i64 a10,.int .i64 a11]) (.int .i64 2)).run Tryz.prog w=.ok (.agg #[.int .i64 a4,.int .i64 a5]) w:=by kernel_rfl
theorem Tryz.ix229_3 (a0 a1 a2 a3 a4 a5 a6 a7 a8 a9 a10 a11:Int) (w:World):(Instr.index 229 (.agg #[.int .i64 a0,.int .i64 a1,.int .i64 a2,.int .i64 a3,.int .i64 a4,.int .i64 a5,.int .i64 a6,.int .i64 a7,.int .i64 a8,.int .i64 a9,.int .i64 a10,.int .i64 a11]) (.int .i64 3)).run Tryz.prog w=.ok (.agg #[.int .i64 a6,.int .i64 a7]) w:=by kernel_rfl
theorem Tryz.ix229_4 (a0 a1 a2 a3 a4 a5 a6 a7 a8 a9 a10 a11:Int) (w:World):(Instr.index 229 (.agg #[.int .i64 a0,.int .i64 a1,.int .i64 a2,.int .i64 a3,.int .i64 a4,.int .i64 a5,.int .i64 a6,.int .i64 a7,.int .i64 a8,.int .i64 a9,.int .i64 a10,.int .i64 a11]) (.int .i64 4)).run Tryz.prog w=.ok (.agg #[.int .i64 a8,.int .i64 a9]) w:=by kernel_rfl
theorem Tryz.ix229_5 (a0 a1 a2 a3 a4 a5 a6 a7 a8 a9 a10 a11:Int) (w:World):(Instr.index 229 (.agg #[.int .i64 a0,.int .i64 a1,.int .i64 a2,.int .i64 a3,.int .i64 a4,.int .i64 a5,.int .i64 a6,.int .i64 a7,.int .i64 a8,.int .i64 a9,.int .i64 a10,.int .i64 a11]) (.int .i64 5)).run Tryz.prog w=.ok (.agg #[.int .i64 a10,.int .i64 a11]) w:=by kernel_rfl
theorem tellPasses_any (g o:Nat) (t:Int) (P:List (Int×Int×Int×Int)) (w:World) (_hg:g < w.heap.size) (hr:w.rangeAt g (o) [.int .i64 (pa (findQ P t 0)),.int .i64 (pb (findQ P t 0)),.int .i64 (pa (findQ P t 1)),.int .i64 (pb (findQ P t 1)),.int .i64 (pa (findQ P t 2)),.int .i64 (pb (findQ P t 2)),.int .i64 (pa (findQ P t 3)),.int .i64 (pb (findQ P t 3)),.int .i64 (pa (findQ P t 4)),.int .i64 (pb (findQ P t 4)),.int .i64 (pa (findQ P t 5)),.int .i64 (pb (findQ P t 5))]) (hk:∀ (i:Nat) p,P[i]? = some p->p.2.2.2≠0) :
  Calls Tryz.prog 141 #[.pointer (some ⟨g,o,none⟩),.int .i64 t] w fun e w'=>∃ a n c,e=.returned (.slice a n c)/\Sl w' 55 4 (.slice a n c) ((told P t 6).map qRow)/\Below w.heap.size w w'/\∀ b,Value.ownBlock (.slice a n c)=some b->w.heap.size<=b:=by
 obtain ⟨i0,hi0,hz0,hz1,hz2⟩:=info_parts Tryz.infoN55
 have HR:=hid hr
 have HK:=hid hk
 clear hr hk
 go_enter Tryz.func141,Tryz.ntmps141
 go_wp2_with (with_reducible (show wpList _ _ _ (⟨_,.load 229 _,_,_,_,none⟩ :: _) _ _);go_must (refine wpList_load_mid rfl 229 _ rfl g (o) rfl _ _ HR.out Tryz.underlying229 rfl (by kernel_rfl) ?_))
 go_loopw [5,12] (fun v i wr=>∃ (k n:Nat) (a:Option Addr) (c:Nat),k<=6/\i=.int .i64 k/\v=.slice a n c/\Hid ((told P t k).length=n/\Sl wr 55 4 (.slice a n c) ((told P t k).map qRow)/\Below w.heap.size w wr/\∀ b,Value.ownBlock (.slice a n c)=some b->w.heap.size<=b)) (fun _ i _=>6-(intOf i).toNat)
 case atStart=>exact ⟨0,0,none,0,Nat.zero_le _,rfl,rfl,rfl,Sl.nil w 55 4,Below.refl _ _,fun b hb=>by simp [Value.ownBlock] at hb⟩
 case round=>
  obtain ⟨k,n,a,c,hk,rfl,rfl,HI⟩:=hrel
  have hn:n<=6:=by have:=told_le P t k;have:=HI.out.1;omega
  by_cases hlt:k < 6
  ·have hix:∀ w,(Instr.index 229 (.agg #[.int .i64 (pa (findQ P t 0)),.int .i64 (pb (findQ P t 0)),.int .i64 (pa (findQ P t 1)),.int .i64 (pb (findQ P t 1)),.int .i64 (pa (findQ P t 2)),.int .i64 (pb (findQ P t 2)),.int .i64 (pa (findQ P t 3)),.int .i64 (pb (findQ P t 3)),.int .i64 (pa (findQ P t 4)),.int .i64 (pb (findQ P t 4)),.int .i64 (pa (findQ P t 5)),.int .i64 (pb (findQ P t 5))]) (.int .i64 k)).run Tryz.prog w=.ok (.agg #[.int .i64 (pa (findQ P t k)),.int .i64 (pb (findQ P t k))]) w:=by
    intro w
    have h6:k=0\/k=1\/k=2\/k=3\/k=4\/k=5:=by omega
    rcases h6 with rfl | rfl | rfl | rfl | rfl | rfl
    ·exact Tryz.ix229_0 _ _ _ _ _ _ _ _ _ _ _ _ w
    ·exact Tryz.ix229_1 _ _ _ _ _ _ _ _ _ _ _ _ w
    ·exact Tryz.ix229_2 _ _ _ _ _ _ _ _ _ _ _ _ w
    ·exact Tryz.ix229_3 _ _ _ _ _ _ _ _ _ _ _ _ w
    ·exact Tryz.ix229_4 _ _ _ _ _ _ _ _ _ _ _ _ w
    ·exact Tryz.ix229_5 _ _ _ _ _ _ _ _ _ _ _ _ w
   have TN:Hid (pb (findQ P t k)=0->told P t (k+1)=told P t k):=told_no HK.out
   have TY:Hid (pb (findQ P t k)≠0->(told P t (k+1)).map qRow=(told P t k).map qRow ++ [[.int .i64 t,.int .i64 k,.int .i64 (pa (findQ P t k)),.int .i64 (pb (findQ P t k))]]):=told_yes
   generalize pa (findQ P t k)=A at hix TY
   generalize pb (findQ P t k)=B at hix TY TN
   by_cases hB:B=0
   ·have hB':(B != 0)=false:=by simp [hB]
    have HB:=hid hB
    clear hB
    go_wp2
    refine ⟨⟨k+1,n,a,c,by omega,by go_num,rfl,?_⟩,by simp [intOf];omega⟩
    have e:=TN.out HB.out
    exact ⟨by rw [e];exact HI.out.1,by rw [e];exact HI.out.2.1.alloc _,HI.out.2.2.1.alloc HI.out.2.2.1.size _,HI.out.2.2.2⟩
   ·have hB':(B != 0)=true:=by simp [hB]
    have HB:=hid hB
    clear hB
    go_wp2_with (at_builtin;go_must (refine wpList_append_sl _ rfl _ _ 29 rfl 55 i0 _ 4 32 Tryz.underlying29 hi0 hz0 hz1 hz2 rfl (by decide) (.slice a n c) ((told P t k).map qRow) rfl ((HI.out.2.1.alloc _).alloc _) ⟨wr.heap.size+1,0,none⟩ 1 1 [[.int .i64 t,.int .i64 k,.int .i64 A,.int .i64 B]] rfl rfl (by decide) (by simp) (fun j u h=>cell_news2 wr _ #[.int .i64 t,.int .i64 k,.int .i64 A,.int .i64 B] 55 j u (by simpa using h)) (fun u hu=>by simp at hu;rcases hu with rfl | rfl | rfl | rfl <;> rfl) (by have:=HI.out.1;rw [List.length_map];unfold maxLen;omega) (by have:=HI.out.1;rw [List.length_map];omega) ?_);intro a4 c4 w4 G4)
    rw [List.length_map] at G4
    have e:=TY.out HB.out
    have el:(told P t (k+1)).length=(told P t k).length+1:=by have:=congrArg List.length e;simpa using this
    have F4:Fr (fun q=>w.heap.size<=q) wr w4:=G4.fr (((Fr.refl _ wr).alloc _).alloc _) (fun q hq _=>HI.out.2.2.2 q hq)
    refine ⟨⟨k+1,_,a4,c4,by omega,by go_num,rfl,el,by rw [e];exact G4.sl,HI.out.2.2.1.trans (F4.to_below HI.out.2.2.1.size (fun _ h=>h)),fun b hb=>?_⟩,by simp [intOf];omega⟩
    rcases G4.at_ b hb with h | h
    ·have:=HI.out.2.2.1.size
     simp at h
     omega
    ·exact HI.out.2.2.2 b h
  ·have hk6:k=6:=by omega
   subst hk6
   go_wp2
   go_ret
   exact ⟨_,_,_,rfl,HI.out.2.1,HI.out.2.2.1,HI.out.2.2.2⟩
theorem Tryz.ix230_0 (a0 b0 a1 b1 a2 b2 a3 b3 a4 b4 a5 b5:Int) (p0 p1 p2 p3 p4 p5:Option Addr) (w:World):(Instr.index 230 (.agg #[.int .i64 a0,.int .i64 b0,.pointer p0,.int .i64 a1,.int .i64 b1,.pointer p1,.int .i64 a2,.int .i64 b2,.pointer p2,.int .i64 a3,.int .i64 b3,.pointer p3,.int .i64 a4,.int .i64 b4,.pointer p4,.int .i64 a5,.int .i64 b5,.pointer p5]) (.int .i64 0)).run Tryz.prog w=.ok (.agg #[.int .i64 a0,.int .i64 b0,.pointer p0]) w:=by kernel_rfl
theorem Tryz.ix230_1 (a0 b0 a1 b1 a2 b2 a3 b3 a4 b4 a5 b5:Int) (p0 p1 p2 p3 p4 p5:Option Addr) (w:World):(Instr.index 230 (.agg #[.int .i64 a0,.int .i64 b0,.pointer p0,.int .i64 a1,.int .i64 b1,.pointer p1,.int .i64 a2,.int .i64 b2,.pointer p2,.int .i64 a3,.int .i64 b3,.pointer p3,.int .i64 a4,.int .i64 b4,.pointer p4,.int .i64 a5,.int .i64 b5,.pointer p5]) (.int .i64 1)).run Tryz.prog w=.ok (.agg #[.int .i64 a1,.int .i64 b1,.pointer p1]) w:=by kernel_rfl
theorem Tryz.ix230_2 (a0 b0 a1 b1 a2 b2 a3 b3 a4 b4 a5 b5:Int) (p0 p1 p2 p3 p4 p5:Option Addr) (w:World):(Instr.index 230 (.agg #[.int .i64 a0,.int .i64 b0,.pointer p0,.int .i64 a1,.int .i64 b1,.pointer p1,.int .i64 a2,.int .i64 b2,.pointer p2,.int .i64 a3,.int .i64 b3,.pointer p3,.int .i64 a4,.int .i64 b4,.pointer p4,.int .i64 a5,.int .i64 b5,.pointer p5]) (.int .i64 2)).run Tryz.prog w=.ok (.agg #[.int .i64 a2,.int .i64 b2,.pointer p2]) w:=by kernel_rfl
theorem Tryz.ix230_3 (a0 b0 a1 b1 a2 b2 a3 b3 a4 b4 a5 b5:Int) (p0 p1 p2 p3 p4 p5:Option Addr) (w:World):(Instr.index 230 (.agg #[.int .i64 a0,.int .i64 b0,.pointer p0,.int .i64 a1,.int .i64 b1,.pointer p1,.int .i64 a2,.int .i64 b2,.pointer p2,.int .i64 a3,.int .i64 b3,.pointer p3,.int .i64 a4,.int .i64 b4,.pointer p4,.int .i64 a5,.int .i64 b5,.pointer p5]) (.int .i64 3)).run Tryz.prog w=.ok (.agg #[.int .i64 a3,.int .i64 b3,.pointer p3]) w:=by kernel_rfl
theorem Tryz.ix230_4 (a0 b0 a1 b1 a2 b2 a3 b3 a4 b4 a5 b5:Int) (p0 p1 p2 p3 p4 p5:Option Addr) (w:World):(Instr.index 230 (.agg #[.int .i64 a0,.int .i64 b0,.pointer p0,.int .i64 a1,.int .i64 b1,.pointer p1,.int .i64 a2,.int .i64 b2,.pointer p2,.int .i64 a3,.int .i64 b3,.pointer p3,.int .i64 a4,.int .i64 b4,.pointer p4,.int .i64 a5,.int .i64 b5,.pointer p5]) (.int .i64 4)).run Tryz.prog w=.ok (.agg #[.int .i64 a4,.int .i64 b4,.pointer p4]) w:=by kernel_rfl
theorem Tryz.ix230_5 (a0 b0 a1 b1 a2 b2 a3 b3 a4 b4 a5 b5:Int) (p0 p1 p2 p3 p4 p5:Option Addr) (w:World):(Instr.index 230 (.agg #[.int .i64 a0,.int .i64 b0,.pointer p0,.int .i64 a1,.int .i64 b1,.pointer p1,.int .i64 a2,.int .i64 b2,.pointer p2,.int .i64 a3,.int .i64 b3,.pointer p3,.int .i64 a4,.int .i64 b4,.pointer p4,.int .i64 a5,.int .i64 b5,.pointer p5]) (.int .i64 5)).run Tryz.prog w=.ok (.agg #[.int .i64 a5,.int .i64 b5,.pointer p5]) w:=by kernel_rfl
theorem tellLeaves_any (g o:Nat) (t:Int) (P:List (Int×Int×Int×Int)) (up:Nat->Option Addr) (w:World) (_hg:g < w.heap.size) (hr:w.rangeAt g (o+12) [.int .i64 (pa (findQ P t 0)),.int .i64 (pb (findQ P t 0)),.pointer (up 0),.int .i64 (pa (findQ P t 1)),.int .i64 (pb (findQ P t 1)),.pointer (up 1),.int .i64 (pa (findQ P t 2)),.int .i64 (pb (findQ P t 2)),.pointer (up 2),.int .i64 (pa (findQ P t 3)),.int .i64 (pb (findQ P t 3)),.pointer (up 3),.int .i64 (pa (findQ P t 4)),.int .i64 (pb (findQ P t 4)),.pointer (up 4),.int .i64 (pa (findQ P t 5)),.int .i64 (pb (findQ P t 5)),.pointer (up 5)]) (hk:∀ (i:Nat) p,P[i]? = some p->p.2.2.2≠0) :
  Calls Tryz.prog 142 #[.pointer (some ⟨g,o,none⟩),.int .i64 t] w fun e w'=>∃ a n c,e=.returned (.slice a n c)/\Sl w' 67 4 (.slice a n c) ((told P t 6).map qRow)/\Below w.heap.size w w'/\∀ b,Value.ownBlock (.slice a n c)=some b->w.heap.size<=b:=by
 obtain ⟨i0,hi0,hz0,hz1,hz2⟩:=info_parts Tryz.infoN67
 have HR:=hid hr
 have HK:=hid hk
 clear hr hk
 go_enter Tryz.func142,Tryz.ntmps142
 go_wp2_with (with_reducible (show wpList _ _ _ (⟨_,.load 230 _,_,_,_,none⟩ :: _) _ _);go_must (refine wpList_load_mid rfl 230 _ rfl g (o+12) rfl _ _ HR.out Tryz.underlying230 rfl (by kernel_rfl) ?_))
 go_loopw [5,12] (fun v i wr=>∃ (k n:Nat) (a:Option Addr) (c:Nat),k<=6/\i=.int .i64 k/\v=.slice a n c/\Hid ((told P t k).length=n/\Sl wr 67 4 (.slice a n c) ((told P t k).map qRow)/\Below w.heap.size w wr/\∀ b,Value.ownBlock (.slice a n c)=some b->w.heap.size<=b)) (fun _ i _=>6-(intOf i).toNat)
 case atStart=>exact ⟨0,0,none,0,Nat.zero_le _,rfl,rfl,rfl,Sl.nil w 67 4,Below.refl _ _,fun b hb=>by simp [Value.ownBlock] at hb⟩
 case round=>
  obtain ⟨k,n,a,c,hk,rfl,rfl,HI⟩:=hrel
  have hn:n<=6:=by have:=told_le P t k;have:=HI.out.1;omega
  by_cases hlt:k < 6
  ·have hix:∀ w,(Instr.index 230 (.agg #[.int .i64 (pa (findQ P t 0)),.int .i64 (pb (findQ P t 0)),.pointer (up 0),.int .i64 (pa (findQ P t 1)),.int .i64 (pb (findQ P t 1)),.pointer (up 1),.int .i64 (pa (findQ P t 2)),.int .i64 (pb (findQ P t 2)),.pointer (up 2),.int .i64 (pa (findQ P t 3)),.int .i64 (pb (findQ P t 3)),.pointer (up 3),.int .i64 (pa (findQ P t 4)),.int .i64 (pb (findQ P t 4)),.pointer (up 4),.int .i64 (pa (findQ P t 5)),.int .i64 (pb (findQ P t 5)),.pointer (up 5)]) (.int .i64 k)).run Tryz.prog w=.ok (.agg #[.int .i64 (pa (findQ P t k)),.int .i64 (pb (findQ P t k)),.pointer (up k)]) w:=by
    intro w
    have h6:k=0\/k=1\/k=2\/k=3\/k=4\/k=5:=by omega
    rcases h6 with rfl | rfl | rfl | rfl | rfl | rfl
    ·exact Tryz.ix230_0 _ _ _ _ _ _ _ _ _ _ _ _ _ _ _ _ _ _ w
    ·exact Tryz.ix230_1 _ _ _ _ _ _ _ _ _ _ _ _ _ _ _ _ _ _ w
    ·exact Tryz.ix230_2 _ _ _ _ _ _ _ _ _ _ _ _ _ _ _ _ _ _ w
    ·exact Tryz.ix230_3 _ _ _ _ _ _ _ _ _ _ _ _ _ _ _ _ _ _ w
    ·exact Tryz.ix230_4 _ _ _ _ _ _ _ _ _ _ _ _ _ _ _ _ _ _ w
    ·exact Tryz.ix230_5 _ _ _ _ _ _ _ _ _ _ _ _ _ _ _ _ _ _ w
   have TN:Hid (pb (findQ P t k)=0->told P t (k+1)=told P t k):=told_no HK.out
   have TY:Hid (pb (findQ P t k)≠0->(told P t (k+1)).map qRow=(told P t k).map qRow ++ [[.int .i64 t,.int .i64 k,.int .i64 (pa (findQ P t k)),.int .i64 (pb (findQ P t k))]]):=told_yes
   generalize pa (findQ P t k)=A at hix TY
   generalize pb (findQ P t k)=B at hix TY TN
   by_cases hB:B=0
   ·have hB':(B != 0)=false:=by simp [hB]
    have HB:=hid hB
    clear hB
    go_wp2
    refine ⟨⟨k+1,n,a,c,by omega,by go_num,rfl,?_⟩,by simp [intOf];omega⟩
    have e:=TN.out HB.out
    exact ⟨by rw [e];exact HI.out.1,by rw [e];exact HI.out.2.1.alloc _,HI.out.2.2.1.alloc HI.out.2.2.1.size _,HI.out.2.2.2⟩
   ·have hB':(B != 0)=true:=by simp [hB]
    have HB:=hid hB
    clear hB
    go_wp2_with (at_builtin;go_must (refine wpList_append_sl _ rfl _ _ 30 rfl 67 i0 _ 4 32 Tryz.underlying30 hi0 hz0 hz1 hz2 rfl (by decide) (.slice a n c) ((told P t k).map qRow) rfl ((HI.out.2.1.alloc _).alloc _) ⟨wr.heap.size+1,0,none⟩ 1 1 [[.int .i64 t,.int .i64 k,.int .i64 A,.int .i64 B]] rfl rfl (by decide) (by simp) (fun j u h=>cell_news2 wr _ #[.int .i64 t,.int .i64 k,.int .i64 A,.int .i64 B] 67 j u (by simpa using h)) (fun u hu=>by simp at hu;rcases hu with rfl | rfl | rfl | rfl <;> rfl) (by have:=HI.out.1;rw [List.length_map];unfold maxLen;omega) (by have:=HI.out.1;rw [List.length_map];omega) ?_);intro a4 c4 w4 G4)
    rw [List.length_map] at G4
    have e:=TY.out HB.out
    have el:(told P t (k+1)).length=(told P t k).length+1:=by have:=congrArg List.length e;simpa using this
    have F4:Fr (fun q=>w.heap.size<=q) wr w4:=G4.fr (((Fr.refl _ wr).alloc _).alloc _) (fun q hq _=>HI.out.2.2.2 q hq)
    refine ⟨⟨k+1,_,a4,c4,by omega,by go_num,rfl,el,by rw [e];exact G4.sl,HI.out.2.2.1.trans (F4.to_below HI.out.2.2.1.size (fun _ h=>h)),fun b hb=>?_⟩,by simp [intOf];omega⟩
    rcases G4.at_ b hb with h | h
    ·have:=HI.out.2.2.1.size
     simp at h
     omega
    ·exact HI.out.2.2.2 b h
  ·have hk6:k=6:=by omega
   subst hk6
   go_wp2
   go_ret
   exact ⟨_,_,_,rfl,HI.out.2.1,HI.out.2.2.1,HI.out.2.2.2⟩
open Go.RowKit
def luA (gs:Nat) (o:Option Lf):Option Addr:=match o with | none=>none | some l=>if l.usp < 0 then none else some ⟨gs,l.usp.toNat*30+12+l.upg.toNat*3,none⟩
theorem lu_eq (gs:Nat) (o:Option Lf):lu gs o=.pointer (luA gs o):=by
 cases o with
 | none=>rfl
 | some l=>simp only [lu,luA,upV];split <;> rfl
theorem la_quad (L:List Lf) (s n:Int):la (findLf L s n)=pa (findQ (L.map quad) s n)/\lb (findLf L s n)=pb (findQ (L.map quad) s n):=by
 rw [find_quad];cases findLf L s n <;> exact ⟨rfl,rfl⟩
theorem sp_range {w:World}{B:Bk}{M:PM}{cs:Array Value}{rv:Nat->Value}{sl:List (Sv×Sv×Value)}(h:PmAt w B M cs rv sl){t:Nat}(ht:t < M.sp.toNat):w.rangeAt B.gs (t*30) (six M.passes t)/\w.rangeAt B.gs (t*30+12) (pages B.gs M.leaves t):=by
 have R:=h.sp.row (i:=t) (r:=spRowM B.gs M.passes M.leaves t) (sprows_get ht)
 constructor
 ·intro j v hv
  have hj:=(List.getElem?_eq_some_iff.1 hv).1
  exact R j v (by unfold spRowM;rw [List.getElem?_append_left hj];exact hv)
 ·intro j v hv
  have:=R (12+j) v (by unfold spRowM;rw [List.getElem?_append_right (by rw [six_len];omega),six_len,Nat.add_sub_cancel_left];exact hv)
  rwa [<- Nat.add_assoc] at this
structure TwoNew (Q L:List (Int×Int×Int×Int)) (t:Int) (w:World) (v u:Value) (w':World):Prop where
 vs:Sl w' 55 4 v ((told Q t 6).map qRow)
 us:Sl w' 67 4 u ((told L t 6).map qRow)
 below:Below w.heap.size w w'
 new:∀ b,v.ownBlock=some b\/u.ownBlock=some b->w.heap.size<=b
 ne:∀ b,v.ownBlock=some b->u.ownBlock≠some b
theorem TwoNew.kept {Q L:List (Int×Int×Int×Int)}{t:Int}{w:World}{v u:Value}{w1 w2:World}(h:TwoNew Q L t w v u w1){T:Nat->Prop}(hf:Fr T w1 w2) (ht:∀ k,T k->w.heap.size<=k/\v.ownBlock≠some k/\u.ownBlock≠some k):TwoNew Q L t w v u w2:=
 ⟨h.vs.kept hf (fun k hk q=>(ht k q).2.1 hk),h.us.kept hf (fun k hk q=>(ht k q).2.2 hk),h.below.trans (hf.to_below h.below.size (fun k q=>(ht k q).1)),h.new,h.ne⟩
theorem set2c {w:World}{g:Nat}{a0 a1 b0 b1:Value}{t:TypeId}(h:w.heap[g]? = some (.cells #[a0,a1] t (0,0))) :
  ((w.setCell ⟨g,0,none⟩ b0).setCell ⟨g,1,none⟩ b1).heap[g]? = some (.cells #[b0,b1] t (0,0))/\Fr (fun k=>k=g) w ((w.setCell ⟨g,0,none⟩ b0).setCell ⟨g,1,none⟩ b1):=
 ⟨heap_setCell_same _ g 1 _ t b1 (heap_setCell_same w g 0 _ t b0 h),((Fr.refl (fun k=>k=g) w).setCell (p:=⟨g,0,none⟩) (fun _=>rfl) _).setCell (p:=⟨g,1,none⟩) (fun _=>rfl) _⟩
theorem mSpace_no (B:Bk) (S:Nat->Prop) (K:RM) (n:Nat) (t:Int) (w:World) (h:KR w B S K) (ok:K.Ok n) (ht:¬ (0<=t/\t < K.sp)) :
  Calls Tryz.prog 89 #[.pointer (some ⟨B.x,0,none⟩),.int .i64 t] w fun e w'=>∃ s,e=.returned (.tuple #[.agg #[.slice none 0 0,.slice none 0 0],.iface 166 (.agg #[.string s,.iface 160 (.agg #[.int .i64 3])])])/\Below w.heap.size w w':=by
 obtain ⟨M,⟨cs,rv,sl,hm,hS⟩,R⟩:=h
 have hc6:=(hm.cell 6).trans hm.c6
 have lx:=hm.lx
 have s3:M.sp.toNat<=3:=by have:=ok.ft.sp3;rw [R.sp];omega
 have HT:Hid (¬ (0<=t/\t < (M.sp.toNat:Int))):=by unfold Hid;rw [R.sp];omega
 have hne:=e3_ne
 generalize M.sp.toNat=m at *
 clear hm hS ht R ok
 go_enter Tryz.func89,Tryz.ntmps89
 go_wp2_with (go_at_call 140;refine (pickS_no _ m B.cp t _ HT.out).mono ?_;rintro e w1 ⟨rfl,rfl⟩)
 exact bodyPost_ret (results_row_tmp Tryz.results89 _ _ w.heap.size 122 _ (0,0) _ _ rfl (heap_alloc_new w _) Tryz.underlying122 rfl (by kernel_rfl) rfl) rfl ⟨_,rfl,(Below.refl _ w).alloc (Nat.le_refl _) _⟩
theorem mSpace_yes (B:Bk) (S:Nat->Prop) (K:RM) (n:Nat) (t:Nat) (w:World) (h:KR w B S K) (ok:K.Ok n) (ht:(t:Int) < K.sp) :
  Calls Tryz.prog 89 #[.pointer (some ⟨B.x,0,none⟩),.int .i64 t] w fun e w'=>∃ av nv cv au nu cu,e=.returned (.tuple #[.agg #[.slice av nv cv,.slice au nu cu],.nilIface])/\TwoNew K.passes (K.leaves.map quad) t w (.slice av nv cv) (.slice au nu cu) w':=by
 obtain ⟨M,⟨cs,rv,sl,hm,hS⟩,R⟩:=h
 have hc6:=(hm.cell 6).trans hm.c6
 have lx:=hm.lx
 have s3:M.sp.toNat<=3:=by have:=ok.ft.sp3;rw [R.sp];omega
 have htm:t < M.sp.toNat:=by rw [R.sp];omega
 have hgl:B.gs < w.heap.size:=hm.ls
 have RR:=sp_range hm htm
 rw [R.ps,R.lf,six_eq,pages_eq] at RR
 simp only [lu_eq,(la_quad _ _ _).1,(la_quad _ _ _).2] at RR
 have rq:∀ (i:Nat) p,K.passes[i]? = some p->p.2.2.2≠0:=fun i p hp=>by have:=(ok.oq i p hp).2.2.2.2.2.2.1;omega
 have rl:∀ (i:Nat) p,(K.leaves.map quad)[i]? = some p->p.2.2.2≠0:=fun i p hp=>by
  rw [List.getElem?_map] at hp
  obtain ⟨l,hl,rfl⟩:=Option.map_eq_some_iff.1 hp
  have:=ok.lf l (List.mem_of_getElem? hl)
  unfold okLf at this
  simp only [quad];omega
 have RL:w.rangeAt B.gs (t*30+12) [.int .i64 (pa (findQ (K.leaves.map quad) t 0)),.int .i64 (pb (findQ (K.leaves.map quad) t 0)),.pointer ((fun k:Nat=>luA B.gs (findLf K.leaves t k)) 0),.int .i64 (pa (findQ (K.leaves.map quad) t 1)),.int .i64 (pb (findQ (K.leaves.map quad) t 1)),.pointer ((fun k:Nat=>luA B.gs (findLf K.leaves t k)) 1),.int .i64 (pa (findQ (K.leaves.map quad) t 2)),.int .i64 (pb (findQ (K.leaves.map quad) t 2)),.pointer ((fun k:Nat=>luA B.gs (findLf K.leaves t k)) 2),.int .i64 (pa (findQ (K.leaves.map quad) t 3)),.int .i64 (pb (findQ (K.leaves.map quad) t 3)),.pointer ((fun k:Nat=>luA B.gs (findLf K.leaves t k)) 3),.int .i64 (pa (findQ (K.leaves.map quad) t 4)),.int .i64 (pb (findQ (K.leaves.map quad) t 4)),.pointer ((fun k:Nat=>luA B.gs (findLf K.leaves t k)) 4),.int .i64 (pa (findQ (K.leaves.map quad) t 5)),.int .i64 (pb (findQ (K.leaves.map quad) t 5)),.pointer ((fun k:Nat=>luA B.gs (findLf K.leaves t k)) 5)]:=RR.2
 have HR:=hid (And.intro (And.intro RR.1 RL) (And.intro rq rl))
 generalize M.sp.toNat=m at *
 clear hm hS ht RR RL rq rl R ok
 generalize (fun k:Nat=>luA B.gs (findLf K.leaves t k))=up at *
 generalize K.passes=Q at *
 generalize K.leaves.map quad=L at *
 go_enter Tryz.func89,Tryz.ntmps89
 go_wp2_with (first
  | (go_at_call 140;refine (pickS_yes B.gs m B.cp t _ htm).mono ?_;rintro e w1 ⟨rfl,rfl⟩)
  | (go_at_call 141;refine (tellPasses_any B.gs (t*30) t Q (w.alloc (.cells #[.slice none 0 0,.slice none 0 0] 122)) (by simp;omega) (World.rangeAt_alloc HR.out.1.1 _) HR.out.2.1).mono ?_;rintro e w2 ⟨av,nv,cv,rfl,H2⟩;replace H2:=hid H2)
  | (go_at_call 142;refine (tellLeaves_any B.gs (t*30) t L up w2 ?_ ?_ HR.out.2.2).mono ?_;(have:=H2.out.2.1.size;simp at this;omega);(exact rangeAt_cells (World.rangeAt_alloc HR.out.1.2 _) (H2.out.2.1.block B.gs (by simp;omega)));rintro e w3 ⟨au,nu,cu,rfl,H3⟩;replace H3:=hid H3;have hb3:Hid (w3.heap[w.heap.size]? = some (.cells #[.slice none 0 0,.slice none 0 0] 122 (0,0))):=((H3.out.2.1.block _ (by have:=H2.out.2.1.size;simp at this;omega)).trans ((H2.out.2.1.block _ (by simp)).trans (heap_alloc_new w _)));have hc0:w3.cell? ⟨w.heap.size,0,none⟩=some (.slice none 0 0):=(cell_of_row w3 _ 0 _ _ _ hb3.out).trans rfl;have hc1:w3.cell? ⟨w.heap.size,1,none⟩=some (.slice none 0 0):=(cell_of_row w3 _ 1 _ _ _ hb3.out).trans rfl;have hf0:=frozen_of_row w3 w.heap.size 0 _ _ hb3.out;have hf1:=frozen_of_row w3 w.heap.size 1 _ _ hb3.out))
 have S2:=set2c (b0:=.slice av nv cv) (b1:=.slice au nu cu) hb3.out
 refine bodyPost_ret (results_row_tmp Tryz.results89 _ _ w.heap.size 122 _ (0,0) _ _ rfl S2.1 Tryz.underlying122 rfl (by kernel_rfl) rfl) rfl ⟨_,_,_,_,_,_,rfl,?_⟩
 have z2:=H2.out.2.1.size
 have z3:=H3.out.2.1.size
 simp only [size_alloc] at z2
 have nv':∀ k,Value.ownBlock (.slice av nv cv)=some k->w.heap.size+1<=k:=fun k hk=>by have:=H2.out.2.2 k hk;simpa using this
 have nu':∀ k,Value.ownBlock (.slice au nu cu)=some k->w2.heap.size<=k:=H3.out.2.2
 have T3:TwoNew Q L t w (.slice av nv cv) (.slice au nu cu) w3:=by
  refine ⟨H2.out.1.kept (Fr.of_below H3.out.2.1 (fun _=>False)) (fun _ _ h=>h),H3.out.1,?_,?_,?_⟩
  ·exact (((Below.refl _ w).alloc (Nat.le_refl _) _).trans (H2.out.2.1.mono (by simp))).trans (H3.out.2.1.mono (by omega))
  ·rintro b (hb | hb)
   ·have:=nv' b hb;omega
   ·have:=nu' b hb;omega
  ·intro b hb hb2
   have:=H2.out.1.lt hb
   have:=nu' b hb2
   omega
 refine T3.kept S2.2 (fun k e=>⟨by omega,fun h=>by have:=nv' k h;omega,fun h=>by have:=nu' k h;omega⟩)
theorem fSpace_no (B:Bk) (S:Nat->Prop) (K:RM) (n:Nat) (t:Int) (w:World) (hg:Gl w) (h:KR w B S K) (ok:K.Ok n) (ht:¬ (0<=t/\t < K.sp)) :
  Calls Tryz.prog 52 #[.pointer (some ⟨B.x,0,none⟩),.int .i64 t] w fun e w'=>e=.returned (.tuple #[.agg #[.slice none 0 0,.slice none 0 0],.int .i64 3])/\Below w.heap.size w w':=by
 have C:=hid (mSpace_no B S K n t (w.alloc (.cells #[.slice none 0 0,.slice none 0 0] 122)) (h.alloc _) ok ht)
 clear h ok ht
 go_enter Tryz.func52,Tryz.ntmps52
 go_wp2_with (go_at_call 89;refine C.out.mono ?_;rintro e w2 ⟨s,rfl,H2⟩;replace H2:=hid H2)
 have hb2:w2.heap[w.heap.size]? = some (.cells #[.slice none 0 0,.slice none 0 0] 122 (0,0)):=(H2.out.block _ (by simp)).trans (heap_alloc_new w _)
 have lw2:w.heap.size < w2.heap.size:=(Array.getElem?_eq_some_iff.1 hb2).1
 have B3:∀ w3:World,Below (w2.alloc (.cells #[.slice none 0 0,.slice none 0 0] 122)).drew.heap.size (w2.alloc (.cells #[.slice none 0 0,.slice none 0 0] 122)).drew w3->Hid (w3.heap[w2.heap.size]? = some (.cells #[.slice none 0 0,.slice none 0 0] 122 (0,0))/\w3.heap[w.heap.size]? = some (.cells #[.slice none 0 0,.slice none 0 0] 122 (0,0))/\Below w.heap.size w w3):=by
  intro w3 h3
  have hh:(w2.alloc (.cells #[.slice none 0 0,.slice none 0 0] 122)).drew.heap.size=w2.heap.size+1:=by simp
  rw [hh] at h3
  refine ⟨(h3.block _ (by omega)).trans (heap_alloc_new w2 _),(h3.block _ (by omega)).trans ((Below.heap_alloc w2 _ _ lw2).trans hb2),?_⟩
  have hB:Below w.heap.size w w2:=(((Below.refl _ w).alloc (Nat.le_refl _) _).trans (H2.out.mono (by simp)))
  exact (hB.alloc (by omega) _).drew.trans (h3.mono (by omega))
 have HB3:=hid B3
 clear B3 hb2
 go_region_with (go_at_call 45;refine (number_met1 s 3 (w2.alloc (.cells #[.slice none 0 0,.slice none 0 0] 122)).drew ((((hg.alloc _).below (by rw [size_alloc];simpa using H2.out)).alloc _))).mono ?_;rintro e w3 ⟨rfl,H3⟩;have G3:=HB3.out w3 H3;have c30:w3.cell? ⟨w2.heap.size,0,none⟩=some (.slice none 0 0):=(cell_of_row w3 _ 0 _ _ _ G3.out.1).trans rfl;have c31:w3.cell? ⟨w2.heap.size,1,none⟩=some (.slice none 0 0):=(cell_of_row w3 _ 1 _ _ _ G3.out.1).trans rfl;have d30:w3.cell? ⟨w.heap.size,0,none⟩=some (.slice none 0 0):=(cell_of_row w3 _ 0 _ _ _ G3.out.2.1).trans rfl;have d31:w3.cell? ⟨w.heap.size,1,none⟩=some (.slice none 0 0):=(cell_of_row w3 _ 1 _ _ _ G3.out.2.1).trans rfl;have f30:=frozen_of_row w3 w.heap.size 0 _ _ G3.out.2.1;have f31:=frozen_of_row w3 w.heap.size 1 _ _ G3.out.2.1;clear H3)
 all_goals
  try go_wp2
  exact bodyPost_ret (results_row_tmp Tryz.results52 _ _ w.heap.size 122 _ (0,0) _ _ rfl (set2c G3.out.2.1).1 Tryz.underlying122 rfl (by kernel_rfl) rfl) rfl ⟨rfl,(G3.out.2.2.setCell (p:=⟨w.heap.size,0,none⟩) (Nat.le_refl _) _).setCell (p:=⟨w.heap.size,1,none⟩) (Nat.le_refl _) _⟩
theorem fSpace_yes (B:Bk) (S:Nat->Prop) (K:RM) (n:Nat) (t:Nat) (w:World) (h:KR w B S K) (ok:K.Ok n) (ht:(t:Int) < K.sp) :
  Calls Tryz.prog 52 #[.pointer (some ⟨B.x,0,none⟩),.int .i64 t] w fun e w'=>∃ av nv cv au nu cu,e=.returned (.tuple #[.agg #[.slice av nv cv,.slice au nu cu],.int .i64 0])/\TwoNew K.passes (K.leaves.map quad) t w (.slice av nv cv) (.slice au nu cu) w':=by
 have C:=hid (mSpace_yes B S K n t (w.alloc (.cells #[.slice none 0 0,.slice none 0 0] 122)) (h.alloc _) ok ht)
 clear h ok ht
 generalize K.passes=Q at *
 generalize K.leaves.map quad=L at *
 go_enter Tryz.func52,Tryz.ntmps52
 go_wp2_with (go_at_call 89;refine C.out.mono ?_;rintro e w2 ⟨av,nv,cv,au,nu,cu,rfl,H2⟩;replace H2:=hid H2)
 have hb2:w2.heap[w.heap.size]? = some (.cells #[.slice none 0 0,.slice none 0 0] 122 (0,0)):=(H2.out.below.block _ (by simp)).trans (heap_alloc_new w _)
 have lw2:w.heap.size < w2.heap.size:=(Array.getElem?_eq_some_iff.1 hb2).1
 have B3:∀ w3:World,Below (w2.alloc (.cells #[.slice av nv cv,.slice au nu cu] 122)).drew.heap.size (w2.alloc (.cells #[.slice av nv cv,.slice au nu cu] 122)).drew w3->Hid (w3.heap[w2.heap.size]? = some (.cells #[.slice av nv cv,.slice au nu cu] 122 (0,0))/\w3.heap[w.heap.size]? = some (.cells #[.slice none 0 0,.slice none 0 0] 122 (0,0))/\TwoNew Q L t (w.alloc (.cells #[.slice none 0 0,.slice none 0 0] 122)) (.slice av nv cv) (.slice au nu cu) w3):=by
  intro w3 h3
  have hh:(w2.alloc (.cells #[.slice av nv cv,.slice au nu cu] 122)).drew.heap.size=w2.heap.size+1:=by simp
  rw [hh] at h3
  refine ⟨(h3.block _ (by omega)).trans (heap_alloc_new w2 _),(h3.block _ (by omega)).trans ((Below.heap_alloc w2 _ _ lw2).trans hb2),?_⟩
  have hf:Fr (fun _=>False) w2 w3:=(((Fr.refl (fun _=>False) w2).alloc _).drew).trans (Fr.of_below (by rw [hh];exact h3) _)
  exact H2.out.kept hf (fun _ h=>h.elim)
 have HB3:=hid B3
 clear B3 hb2
 go_region_with (go_at_call 45;refine (number_nil _).mono ?_;rintro e w3 ⟨rfl,H3⟩;have G3:=HB3.out w3 H3;have c30:w3.cell? ⟨w2.heap.size,0,none⟩=some (.slice av nv cv):=(cell_of_row w3 _ 0 _ _ _ G3.out.1).trans rfl;have c31:w3.cell? ⟨w2.heap.size,1,none⟩=some (.slice au nu cu):=(cell_of_row w3 _ 1 _ _ _ G3.out.1).trans rfl;have d30:w3.cell? ⟨w.heap.size,0,none⟩=some (.slice none 0 0):=(cell_of_row w3 _ 0 _ _ _ G3.out.2.1).trans rfl;have d31:w3.cell? ⟨w.heap.size,1,none⟩=some (.slice none 0 0):=(cell_of_row w3 _ 1 _ _ _ G3.out.2.1).trans rfl;have f30:=frozen_of_row w3 w.heap.size 0 _ _ G3.out.2.1;have f31:=frozen_of_row w3 w.heap.size 1 _ _ G3.out.2.1;clear H3)
 all_goals
  try go_wp2
  have S2:=set2c (b0:=.slice av nv cv) (b1:=.slice au nu cu) G3.out.2.1
  refine bodyPost_ret (results_row_tmp Tryz.results52 _ _ w.heap.size 122 _ (0,0) _ _ rfl S2.1 Tryz.underlying122 rfl (by kernel_rfl) rfl) rfl ⟨_,_,_,_,_,_,rfl,?_⟩
  have N:=G3.out.2.2
  have n1:=N.new
  simp only [size_alloc] at n1
  have N':TwoNew Q L t w (.slice av nv cv) (.slice au nu cu) w3:=⟨N.vs,N.us,((Below.refl _ w).alloc (Nat.le_refl _) _).trans (N.below.mono (by simp)),fun b hb=>by have:=n1 b hb;omega,N.ne⟩
  exact N'.kept S2.2 (fun k e=>⟨by omega,fun h=>by have:=n1 k (.inl h);omega,fun h=>by have:=n1 k (.inr h);omega⟩)
open Go.RowKit
theorem KLeft.after {w w2 w3:World}{B:Bk}{S:Nat->Prop}{act:Nat->Prop}{K:RM}(h:KLeft B S act K w w2) (hb:Below w2.heap.size w2 w3):KLeft B S act K w w3:=by
 obtain ⟨M,⟨⟨S',h1,h2⟩,h3⟩,R⟩:=h
 exact ⟨M,⟨⟨S',h1.below hb,h2⟩,h3.trans (Fr.of_below hb S)⟩,R⟩
section
variable (B:Bk) (S:Nat->Prop) (K:RM) (n:Nat) (w:World)
theorem fCurrent_any (h:KR w B S K) (ok:K.Ok n) :
  Calls Tryz.prog 18 #[.pointer (some ⟨B.x,0,none⟩)] w fun e w'=>e=.returned (.int .i64 K.cur)/\Below w.heap.size w w':=by
 obtain ⟨M,h,R⟩:=h
 have C:=hid (mCurrent_any B S none_ M K w h R ok.ft)
 clear h R ok
 go_enter Tryz.func18,Tryz.ntmps18
 go_wp2_with (go_at_call 43;refine C.out.mono ?_;rintro e w2 ⟨rfl,rfl⟩)
 go_ret
 exact ⟨rfl,Below.refl _ _⟩
theorem fTick_any (h:KR w B S K) (ok:K.Ok n) (hn:n<=1000000000000000) :
  Calls Tryz.prog 19 #[.pointer (some ⟨B.x,0,none⟩)] w fun e w'=>e=.returned (.tuple #[])/\KLeft B S none_ K.tick w w':=by
 obtain ⟨M,h,R⟩:=h
 have C:=hid (mTick_any B S M K n w h R ok hn)
 clear h ok R
 go_enter Tryz.func19,Tryz.ntmps19
 go_wp2_with (go_at_call 44;refine C.out.mono ?_;rintro e w2 ⟨rfl,H2⟩;replace H2:=hid H2)
 go_end0
 exact ⟨rfl,H2.out⟩
theorem mYield_any (h:KR w B S K) (ok:K.Ok n) :
  Calls Tryz.prog 46 #[.pointer (some ⟨B.x,0,none⟩)] w fun e w'=>Ans K.yield.1 e w w'/\KLeft B S none_ K.yield.2 w w':=by
 by_cases hc:K.cur < 0
 ·have E:K.yield=(2,K):=by unfold RM.yield;rw [if_pos hc]
  obtain ⟨M,hp,R⟩:=h
  refine (mYield_no B S M K w hp R ok.ft hc).mono ?_
  rintro e w' ⟨rfl,rfl⟩
  rw [E]
  exact ⟨.inr ⟨_,rfl,Below.refl _ _⟩,⟨M,PLeft.refl hp,R⟩⟩
 ·obtain ⟨t,u,et,hu,s1⟩:=K.cur_in hc
  have E:K.yield=(0,(K.setLeft t 3).toLast t):=by unfold RM.yield;rw [if_neg hc,et,Int.toNat_natCast]
  obtain ⟨M,hp,R⟩:=h
  refine (mYield_yes B S M K _ t w hp R ok.ft ok.nm et).mono ?_
  rintro e w' ⟨rfl,H⟩
  rw [E]
  exact ⟨.inl ⟨rfl,rfl⟩,H⟩
theorem fLoad_any (pg ce:Int) (hg:Gl w) (h:KR w B S K) (ok:K.Ok n) :
  Calls Tryz.prog 41 #[.pointer (some ⟨B.x,0,none⟩),.int .i64 pg,.int .i64 ce] w fun e w'=>e=.returned (.tuple #[.int .i64 (K.load pg ce).1,.int .i64 (K.load pg ce).2])/\Below w.heap.size w w':=by
 have HC:=hid (mLoad_any B S K n w h ok pg ce)
 have HG:=hid hg
 clear h ok hg
 go_enter Tryz.func41,Tryz.ntmps41
 go_wp2_with fail
 refine HC.out.mono ?_
 rintro e w2 ⟨B2,⟨v,E,rfl⟩ | ⟨cd,st,E,rfl⟩⟩
 ·have HB:=hid B2
  have HE:=hid E
  clear E B2
  go_wp2_with (go_at_call 45;refine (number_nil _).mono ?_;rintro e w3 ⟨rfl,H3⟩;replace H3:=hid H3)
  go_ret2
  exact ⟨by rw [HE.out];rfl,HB.out.trans (H3.out.mono HB.out.size)⟩
 ·have HB:=hid B2
  have HE:=hid E
  clear E B2
  go_wp2_with (go_at_call 45;refine (number_met1 st cd _ (HG.out.below HB.out)).mono ?_;rintro e w3 ⟨rfl,H3⟩;replace H3:=hid H3)
  go_ret2
  exact ⟨by rw [HE.out];rfl,HB.out.trans (H3.out.mono HB.out.size)⟩
theorem fYield_any (hg:Gl w) (h:KR w B S K) (ok:K.Ok n) :
  Calls Tryz.prog 22 #[.pointer (some ⟨B.x,0,none⟩)] w fun e w'=>e=.returned (.int .i64 (K.yield.1))/\KLeft B S none_ (K.yield.2) w w':=by
 have HC:=hid (mYield_any B S K n w h ok)
 have HG:=hid hg
 clear h ok hg
 generalize K.yield.1=cd at *
 generalize K.yield.2=K2 at *
 go_enter Tryz.func22,Tryz.ntmps22
 go_wp2_with fail
 refine HC.out.mono ?_
 rintro e w2 ⟨⟨rfl,rfl⟩ | ⟨st,rfl,BB⟩,R2⟩
 ·have HB:=hid R2
  clear R2
  go_wp2_with (go_at_call 45;refine (number_nil _).mono ?_;rintro e w3 ⟨rfl,H3⟩;replace H3:=hid H3)
  go_ret
  exact ⟨rfl,HB.out.after H3.out⟩
 ·have G2:Gl w2:=HG.out.below BB
  have HB:=hid R2
  have HG2:=hid G2
  clear R2 G2 BB
  go_wp2_with (go_at_call 45;refine (number_met1 st cd _ HG2.out).mono ?_;rintro e w3 ⟨rfl,H3⟩;replace H3:=hid H3)
  go_ret
  exact ⟨rfl,HB.out.after H3.out⟩
theorem fStore_any (pg ce v:Int) (hg:Gl w) (h:KR w B S K) (ok:K.Ok n) :
  Calls Tryz.prog 39 #[.pointer (some ⟨B.x,0,none⟩),.int .i64 pg,.int .i64 ce,.int .i64 v] w fun e w'=>e=.returned (.int .i64 ((K.touch pg ce 2).2))/\KLeft B S none_ (K.stored pg ce v) w w':=by
 have HC:=hid (mStore_any B S K n w h ok pg ce v)
 have HG:=hid hg
 clear h ok hg
 generalize (K.touch pg ce 2).2=cd at *
 generalize K.stored pg ce v=K2 at *
 go_enter Tryz.func39,Tryz.ntmps39
 go_wp2_with fail
 refine HC.out.mono ?_
 rintro e w2 ⟨⟨rfl,rfl⟩ | ⟨st,rfl,BB⟩,R2⟩
 ·have HB:=hid R2
  clear R2
  go_wp2_with (go_at_call 45;refine (number_nil _).mono ?_;rintro e w3 ⟨rfl,H3⟩;replace H3:=hid H3)
  go_ret
  exact ⟨rfl,HB.out.after H3.out⟩
 ·have G2:Gl w2:=HG.out.below BB
  have HB:=hid R2
  have HG2:=hid G2
  clear R2 G2 BB
  go_wp2_with (go_at_call 45;refine (number_met1 st cd _ HG2.out).mono ?_;rintro e w3 ⟨rfl,H3⟩;replace H3:=hid H3)
  go_ret
  exact ⟨rfl,HB.out.after H3.out⟩
theorem fUnmap_any (pg:Int) (own:Bool) (hg:Gl w) (h:KR w B S K) (ok:K.Ok n) :
  Calls Tryz.prog 30 #[.pointer (some ⟨B.x,0,none⟩),.int .i64 pg,.bool own] w fun e w'=>e=.returned (.int .i64 ((K.unmap pg own).1))/\KLeft B S none_ ((K.unmap pg own).2) w w':=by
 have HC:=hid (mUnmap_any B S K n w h ok pg own)
 have HG:=hid hg
 clear h ok hg
 generalize (K.unmap pg own).1=cd at *
 generalize (K.unmap pg own).2=K2 at *
 go_enter Tryz.func30,Tryz.ntmps30
 go_wp2_with fail
 refine HC.out.mono ?_
 rintro e w2 ⟨⟨rfl,rfl⟩ | ⟨st,rfl,BB⟩,R2⟩
 ·have HB:=hid R2
  clear R2
  go_wp2_with (go_at_call 45;refine (number_nil _).mono ?_;rintro e w3 ⟨rfl,H3⟩;replace H3:=hid H3)
  go_ret
  exact ⟨rfl,HB.out.after H3.out⟩
 ·have G2:Gl w2:=HG.out.below BB
  have HB:=hid R2
  have HG2:=hid G2
  clear R2 G2 BB
  go_wp2_with (go_at_call 45;refine (number_met1 st cd _ HG2.out).mono ?_;rintro e w3 ⟨rfl,H3⟩;replace H3:=hid H3)
  go_ret
  exact ⟨rfl,HB.out.after H3.out⟩
theorem fDerive_any (a b r:Int) (hg:Gl w) (h:KR w B S K) (ok:K.Ok n) :
  Calls Tryz.prog 48 #[.pointer (some ⟨B.x,0,none⟩),.int .i64 a,.int .i64 b,.int .i64 r] w fun e w'=>e=.returned (.int .i64 ((K.derive a b r).1))/\KLeft B S none_ ((K.derive a b r).2) w w':=by
 have HC:=hid (mDerive_any B S K n w h ok a b r)
 have HG:=hid hg
 clear h ok hg
 generalize (K.derive a b r).1=cd at *
 generalize (K.derive a b r).2=K2 at *
 go_enter Tryz.func48,Tryz.ntmps48
 go_wp2_with fail
 refine HC.out.mono ?_
 rintro e w2 ⟨⟨rfl,rfl⟩ | ⟨st,rfl,BB⟩,R2⟩
 ·have HB:=hid R2
  clear R2
  go_wp2_with (go_at_call 45;refine (number_nil _).mono ?_;rintro e w3 ⟨rfl,H3⟩;replace H3:=hid H3)
  go_ret
  exact ⟨rfl,HB.out.after H3.out⟩
 ·have G2:Gl w2:=HG.out.below BB
  have HB:=hid R2
  have HG2:=hid G2
  clear R2 G2 BB
  go_wp2_with (go_at_call 45;refine (number_met1 st cd _ HG2.out).mono ?_;rintro e w3 ⟨rfl,H3⟩;replace H3:=hid H3)
  go_ret
  exact ⟨rfl,HB.out.after H3.out⟩
theorem fDrop_any (a:Int) (hg:Gl w) (h:KR w B S K) (ok:K.Ok n) :
  Calls Tryz.prog 49 #[.pointer (some ⟨B.x,0,none⟩),.int .i64 a] w fun e w'=>e=.returned (.int .i64 ((K.drop a).1))/\KLeft B S none_ ((K.drop a).2) w w':=by
 have HC:=hid (mDrop_any B S K n w h ok a)
 have HG:=hid hg
 clear h ok hg
 generalize (K.drop a).1=cd at *
 generalize (K.drop a).2=K2 at *
 go_enter Tryz.func49,Tryz.ntmps49
 go_wp2_with fail
 refine HC.out.mono ?_
 rintro e w2 ⟨⟨rfl,rfl⟩ | ⟨st,rfl,BB⟩,R2⟩
 ·have HB:=hid R2
  clear R2
  go_wp2_with (go_at_call 45;refine (number_nil _).mono ?_;rintro e w3 ⟨rfl,H3⟩;replace H3:=hid H3)
  go_ret
  exact ⟨rfl,HB.out.after H3.out⟩
 ·have G2:Gl w2:=HG.out.below BB
  have HB:=hid R2
  have HG2:=hid G2
  clear R2 G2 BB
  go_wp2_with (go_at_call 45;refine (number_met1 st cd _ HG2.out).mono ?_;rintro e w3 ⟨rfl,H3⟩;replace H3:=hid H3)
  go_ret
  exact ⟨rfl,HB.out.after H3.out⟩
end
open Go.RowKit
section
variable (IM:MsgOk) (B:Bk) (S:Nat->Prop) (K:RM) (n:Nat) (m:Ms) (sa:Option Addr) (sc:Nat) (w:World)
include IM in
theorem mIpc_any (h:KR w B S K) (ok:K.Ok n) (hI:Inl w 1 (.slice sa m.words.length sc) (m.words.map lnI)) (hN:∀ k,inBlock (.slice sa m.words.length sc)=some k->¬ S k) :
  Calls Tryz.prog 47 #[.pointer (some ⟨B.x,0,none⟩),.agg (mC m sa sc)] w fun e w'=>∃ cd,cd=(K.ipc m).1/\((cd=0/\e=.returned .nilIface)\/(∃ st,e=.returned (.iface 166 (.agg #[.string st,.iface 160 (.agg #[.int .i64 cd])]))/\Below w.heap.size w w'))/\KLeft B S none_ (K.ipc m).2 w w':=by
 by_cases hc:K.cur < 0
 ·have E:K.ipc m=(2,K):=by unfold RM.ipc;rw [if_pos hc]
  refine (mIpc_no B S K n m sa sc w h ok hc).mono ?_
  rintro e w' (⟨h0,_⟩ | ⟨st,rfl,b⟩)
  ·omega
  ·rw [E];exact ⟨2,rfl,.inr ⟨st,rfl,b⟩,h.left b⟩
 ·obtain ⟨t,u,hc',hu,s1⟩:=K.cur_in hc
  have hk:=h
  obtain ⟨M,hr,R⟩:=h
  obtain ⟨p,hp,_⟩:=R.get hu
  cases hm:isMs K.threads.length m with
  | false=>
   have E:K.ipc m=(3,K):=by unfold RM.ipc;rw [if_neg hc,if_pos hm]
   refine (mIpc_arg IM B S M K n t m sa sc w hr R ok hc' hm).mono ?_
   rintro e w' (⟨h0,_⟩ | ⟨st,rfl,b⟩)
   ·omega
   ·rw [E];exact ⟨3,rfl,.inr ⟨st,rfl,b⟩,hk.left b⟩
  | true=>
   have mi:=isMs_in hm
   by_cases hd:m.dst < 0
   ·refine (mIpc_recv IM B S M K n t u p m sa sc w hr R ok hc' hu s1 hp hm (by omega)).mono ?_
    rintro e w' ⟨rfl,L⟩
    exact ⟨0,by rw [ipc_recv hc' hm hd],.inl ⟨rfl,rfl⟩,L⟩
   ·refine (mIpc_send IM B S M K n t u p m sa sc w hr R ok hc' hu s1 hp hm (by omega) hI hN).mono ?_
    rintro e w' ⟨rfl,e0,L⟩
    exact ⟨0,e0.symm,.inl ⟨rfl,rfl⟩,L⟩
include IM in
theorem fIpc_any (hg:Gl w) (h:KR w B S K) (ok:K.Ok n) (hI:Inl w 1 (.slice sa m.words.length sc) (m.words.map lnI)) (hN:∀ k,inBlock (.slice sa m.words.length sc)=some k->¬ S k) :
  Calls Tryz.prog 23 #[.pointer (some ⟨B.x,0,none⟩),msV m sa sc] w fun e w'=>e=.returned (.int .i64 (K.ipc m).1)/\KLeft B S none_ (K.ipc m).2 w w':=by
 have hb:Below w.heap.size w (w.alloc (.cells (mC m sa sc) 43)).drew:=((Below.refl _ w).alloc (Nat.le_refl _) _).drew
 have HC:=hid (mIpc_any IM B S K n m sa sc _ (h.below hb) ok (hI.kept (by omega) (Fr.of_below hb (fun _=>False)) (fun _ _ h=>h)) hN)
 have HG:=hid (And.intro (hg.below hb) (Fr.of_below hb S))
 have lx:B.x < w.heap.size:=by obtain ⟨M,⟨cs,rv,sl,hq,_⟩,_⟩:=h;exact hq.lx
 show Calls Tryz.prog 23 #[.pointer (some ⟨B.x,0,none⟩),.agg (mC m sa sc)] w _
 clear h ok hg hI hN hb
 have HD:Hid (Calls Tryz.prog 47 #[.pointer (some ⟨B.x,0,none⟩),.agg (mC m sa sc)] (w.alloc (.cells (mC m sa sc) 43)).drew fun e w2=>∃ v,e=.returned v/\Hid (Calls Tryz.prog 45 #[v] w2 fun e w3=>e=.returned (.int .i64 (K.ipc m).1)/\Below w2.heap.size w2 w3)/\Hid (KLeft B S none_ (K.ipc m).2 (w.alloc (.cells (mC m sa sc) 43)).drew w2)):=by
  refine HC.out.mono ?_
  rintro e w2 ⟨cd,ec,⟨e0,rfl⟩ | ⟨st,rfl,b⟩,L⟩
  ·refine ⟨_,rfl,?_,L⟩
   show Calls _ _ _ _ _
   rw [<- ec,e0];exact number_nil w2
  ·refine ⟨_,rfl,?_,L⟩
   show Calls _ _ _ _ _
   rw [<- ec];exact number_met1 st cd w2 (HG.out.1.below b)
 clear HC
 generalize (K.ipc m).1=cd0 at *
 generalize (K.ipc m).2=K2 at *
 go_enter Tryz.func23,Tryz.ntmps23
 go_wp2
 go_region_with (first
  | (go_at_call 47;refine HD.out.mono ?_;rintro e w2 ⟨v,rfl,N2,L2⟩)
  | (go_at_call 45;refine N2.out.mono ?_;rintro e w3 ⟨rfl,H3⟩;replace H3:=hid H3))
 all_goals
  try go_wp2
  go_ret
  exact ⟨rfl,KLeft.from HG.out.2 (L2.out.after H3.out)⟩
end
def ProgRep (w:World) (x:Nat) (S:Nat->Prop) (K:RM):Prop:=∃ B:Bk,B.x=x/\KR w B S K
theorem KLeft.left {B:Bk}{S:Nat->Prop}{K:RM}{w w':World}(h:KLeft B S none_ K w w'):Left ProgRep B.x S K w w':=by
 obtain ⟨M,⟨⟨S',h1,h2⟩,h3⟩,R⟩:=h
 exact ⟨⟨S',⟨B,rfl,M,h1,R⟩,h2⟩,h3⟩
theorem KR.ltS {w:World}{B:Bk}{S:Nat->Prop}{K:RM}(h:KR w B S K):∀ b,S b->b < w.heap.size:=by
 obtain ⟨M,h,_⟩:=h
 exact fun b hb=>h.ltS hb
theorem KR.kept {w w':World}{B:Bk}{S T:Nat->Prop}{K:RM}(h:KR w B S K) (hf:Fr T w w') (hn:∀ b,S b->¬ T b):KR w' B S K:=by
 obtain ⟨M,h,R⟩:=h
 exact ⟨M,h.kept hf hn,R⟩
open Go.RowKit
theorem MAt.move {w w':World}{x x':Nat}{cs:Array Value}{cl:Int×(Nat->Int)}{ts:List (Int×Int×Int×Int)}{n:Nat}{Q L:List (Int×Int×Int×Int)}{ln:Nat->List Nat}{vt:Value}{rv:Nat->Value}{vs:Value}
  (h:MAt w x 109 cs cl ts n Q L ln vt rv vs) (hf:Fr (fun _=>False) w w') (hb:w'.heap[x']? = some (.cells cs 111 (0,0))) (hx:w.heap.size<=x'):MAt w' x' 111 cs cl ts n Q L ln vt rv vs:=by
 have h':=h.kept hf (fun _ _ h=>h)
 refine ⟨hb,h.size,h.c0,h.c1,h.row,h.c6,h'.th,h'.li,h'.sp,fun e=>?_,fun r hr e=>?_,fun e=>?_,h.n4,h.n5,h.n6,h.fr⟩
 ·have:=h.th.lt e;omega
 ·have:=(h.li r hr).lt e;omega
 ·have:=h.sp.lt e;omega
def ptOf (u:Int×Int×Int×Int):PT:={ sp:=u.1,row:=u.2.1,left:=u.2.2.2,st:=1,code:=0,who:=-1,ws:=[],got:=-1,tgt:=0,pw:=[],item:=0,rt:=0,frm:=0,win:=0,wait:=0,time:=0,wl:=[] }
def pmNew (T:List (Int×Int)) (n:Nat) (Q L:List (Int×Int×Int×Int)) (ln:Nat->List Nat):PM:=⟨(born 0 T).map ptOf,ln,n,Q,L.map lfOf,fr0,0⟩
def nilSl (m:Nat):List (Sv×Sv×Value):=List.replicate m (Sv.nil,Sv.nil,.slice none 0 0)
theorem sp_gs (n gs:Nat) (Q L:List (Int×Int×Int×Int)):spRowsM n gs Q (L.map lfOf)=spRowsM n 0 Q (L.map lfOf):=by
 have h:∀ s i:Int,cell3 gs (findLf (L.map lfOf) s i)=cell3 0 (findLf (L.map lfOf) s i):=fun s i=>by
  rw [find_lfOf]
  cases findQ L s i <;> rfl
 unfold spRowsM
 congr 1
 funext s
 unfold spRowM pages
 simp only [h]
theorem prows_new (ts:List (Int×Int×Int×Int)):prows (ts.map ptOf) (nilSl ts.length)=ts.map thRow:=by
 apply List.ext_getElem?
 intro i
 unfold prows nilSl
 rw [List.getElem?_zipWith,List.getElem?_map,List.getElem?_map,List.getElem?_replicate]
 rcases hx:ts[i]? with _ | u
 ·simp
 ·have hi:=(List.getElem?_eq_some_iff.1 hx).1
  simp [hi]
  rfl
theorem lnV_new (rv:Nat->Value) (m j:Nat):lnV rv (nilSl m) j=if j < 4 then rv j else .slice none 0 0:=by
 unfold lnV nilSl
 split
 ·rfl
 ·rw [List.getElem?_replicate]
  split <;> rfl
theorem pt_get {ts:List (Int×Int×Int×Int)}{i:Nat}{p:PT}(h:(ts.map ptOf)[i]? = some p):∃ u,ts[i]? = some u/\p=ptOf u:=by
 rw [List.getElem?_map] at h
 rcases hx:ts[i]? with _ | u
 ·rw [hx] at h;simp at h
 ·rw [hx] at h
  simp at h
  exact ⟨u,rfl,h.symm⟩
theorem th_get {ts:List (Int×Int×Int×Int)}{i:Nat}{p:Th}(h:(ts.map thOf)[i]? = some p):∃ u,ts[i]? = some u/\p=thOf u:=by
 rw [List.getElem?_map] at h
 rcases hx:ts[i]? with _ | u
 ·rw [hx] at h;simp at h
 ·rw [hx] at h
  simp at h
  exact ⟨u,rfl,h.symm⟩
theorem line_new (T:List (Int×Int)) (n:Nat) (Q L:List (Int×Int×Int×Int)) (ln:Nat->List Nat) (j:Nat):(pmNew T n Q L ln).line j=if j < 4 then ln j else []:=by
 unfold PM.line
 split
 ·rfl
 ·rcases hx:(pmNew T n Q L ln).threads[j-4]? with _ | p
  ·rfl
  ·obtain ⟨u,_,rfl⟩:=pt_get (ts:=born 0 T) hx
   rfl
theorem rel_new {T:List (Int×Int)}{n:Nat}{Q L:List (Int×Int×Int×Int)}{ln:Nat->List Nat}(h:Lined (born 0 T) T.length ln):Rel none_ (pmNew T n Q L ln) (RK.new n T Q L).up:=by
 have hs:∀ (i:Nat) t,(RK.new n T Q L).up.threads[i]? = some t->∃ u,(born 0 T)[i]? = some u/\t=thOf u:=fun i t ht=>th_get (ts:=born 0 T) ht
 refine ⟨by simp [pmNew,RK.up,RK.new],fun i t p ht hp=>?_,fun r hr=>⟨fun t=>?_,?_⟩,fun r p hp=>?_,rfl,rfl,rfl,rfl,rfl⟩
 ·obtain ⟨u,hu,rfl⟩:=hs i t ht
  obtain ⟨v,hv,rfl⟩:=pt_get (ts:=born 0 T) hp
  rw [hu] at hv
  cases hv
  exact ⟨rfl,rfl,rfl,rfl,rfl,rfl,rfl,rfl,fun _=>⟨rfl,fun _=>rfl⟩,fun e=>by rcases e with e | e;exact absurd rfl e;exact e.elim,fun e=>absurd rfl e,fun e=>by simp [thOf] at e⟩
 ·show t∈ln r↔_
  rw [h.mem]
  constructor
  ·rintro ⟨u,hu,e⟩
   exact ⟨thOf u,by show ((born 0 T).map thOf)[t]? = _;rw [List.getElem?_map,hu];rfl,rfl,e⟩
  ·rintro ⟨v,hv,_,e⟩
   obtain ⟨u,hu,rfl⟩:=hs t v hv
   exact ⟨u,hu,e⟩
 ·refine (h.sorted r).imp (fun {a b} hab=>?_)
  have e:∀ a,ordM (RK.new n T Q L).up.threads a=ordOf (born 0 T) a:=fun a=>by
   show ordM ((born 0 T).map thOf) a=_
   unfold ordM ordOf
   rw [List.getElem?_map]
   cases (born 0 T)[a]? <;> rfl
  rw [e,e];exact hab
 ·obtain ⟨u,hu,rfl⟩:=pt_get (ts:=born 0 T) hp
  refine ⟨fun t=>⟨fun e=>by simp [ptOf] at e,fun ⟨v,hv,e,_⟩=>?_⟩,by simp [ptOf]⟩
  obtain ⟨u,_,rfl⟩:=hs t v hv
  simp [thOf] at e
theorem prog_new {w:World}{x:Nat}{cs:Array Value}{T:List (Int×Int)}{n:Nat}{Q L:List (Int×Int×Int×Int)}{ln:Nat->List Nat}{vt:Value}{rv:Nat->Value}{vs:Value}
  (h:MAt w x 111 cs c00 (born 0 T) n Q L ln vt rv vs) (hl:Lined (born 0 T) T.length ln) (n1:1<=n) (t1:1<=T.length):∃ S,ProgRep w x S (RK.new n T Q L).up/\∀ k,S k->MOwn x vt rv vs k:=by
 have hb:(born 0 T).length=T.length:=born_length 0 T
 obtain ⟨a,c,e1⟩:=h.th.slice
 rw [List.length_map] at e1
 subst e1
 obtain ⟨g,ea,_⟩:=h.th.is_some (by omega)
 subst ea
 obtain ⟨a2,c2,e2⟩:=h.sp.slice
 have hlen:(spRows n Q L).length=n:=by simp [spRows,spRowsM]
 rw [hlen] at e2
 subst e2
 obtain ⟨gs,ea2,_⟩:=h.sp.is_some (by omega)
 subst ea2
 have tl:(pmNew T n Q L ln).threads.length=(born 0 T).length:=by simp [pmNew]
 have o4:∀ j k,(if j < 4 then rv j else Value.slice none 0 0).ownBlock=some k->j < 4/\(rv j).ownBlock=some k:=fun j k e=>by
  by_cases hj:j < 4
  ·rw [if_pos hj] at e;exact ⟨hj,e⟩
  ·rw [if_neg hj] at e;simp [Value.ownBlock] at e
 have en:(n:Int).toNat=n:=by simp
 have P:PmAt w ⟨x,111,g,c,gs,c2⟩ (pmNew T n Q L ln) cs rv (nilSl (born 0 T).length):=by
  refine ⟨h.blk,h.size,h.c0,?_,h.row,?_,h.fr,by simp [nilSl,tl],?_,?_,fun j hj=>?_,fun i p s hp hs=>?_,⟨fun e=>h.n1 (by show some g=some x;rw [show g=x from e]),fun e=>h.n3 (by show some gs=some x;rw [show gs=x from e]),fun e=>h.n6 g rfl (by show some gs=some g;rw [show g=gs from e])⟩,fun j hj k hk=>?_,fun i j hi hj hij k hk=>?_⟩
  ·rw [tl];exact h.c1
  ·exact h.c6.trans (by show _=some (Value.slice _ (n:Int).toNat _);rw [en])
  ·show Sl w 158 17 _ (prows ((born 0 T).map ptOf) _)
   rw [prows_new,tl];exact h.th
  ·show Sl w 232 30 (.slice _ (n:Int).toNat _) (spRowsM (n:Int).toNat gs Q (L.map lfOf))
   rw [sp_gs,en];exact h.sp
  ·rw [lnV_new,line_new]
   by_cases e:j < 4
   ·rw [if_pos e,if_pos e];exact h.li j e
   ·rw [if_neg e,if_neg e];exact Sl.nil _ _ _
  ·obtain ⟨u,_,rfl⟩:=pt_get (ts:=born 0 T) hp
   have es:s=(Sv.nil,Sv.nil,.slice none 0 0):=by
    unfold nilSl at hs
    rw [List.getElem?_replicate] at hs
    split at hs
    ·cases hs;rfl
    ·cases hs
   rw [es]
   exact ⟨PWd.nil _ _ _ _ _,PWd.nil _ _ _ _ _⟩
  ·rw [lnV_new] at hk
   obtain ⟨j4,hk⟩:=o4 j k hk
   exact ⟨fun e=>h.n2 j j4 (by rw [<- show k=x from e];exact hk),fun e=>(h.n4 j j4 k hk).1 (by show some g=some k;rw [show k=g from e]),fun e=>(h.n4 j j4 k hk).2 (by show some gs=some k;rw [show k=gs from e])⟩
  ·rw [lnV_new] at hk ⊢
   obtain ⟨i4,hk⟩:=o4 i k hk
   intro e
   obtain ⟨j4,e⟩:=o4 j k e
   exact h.n5 i j i4 j4 hij k hk e
 refine ⟨POwn ⟨x,111,g,c,gs,c2⟩ (pmNew T n Q L ln).threads.length rv (nilSl (born 0 T).length),⟨⟨x,111,g,c,gs,c2⟩,rfl,pmNew T n Q L ln,⟨cs,rv,_,P,fun _=>Iff.rfl⟩,rel_new hl⟩,fun k hk=>?_⟩
 rcases hk with (e | e | e | ⟨j,hj,e⟩) | ⟨i,s,hs,e⟩
 ·exact .inl e
 ·exact .inr (.inl (by show some g=some k;rw [show k=g from e]))
 ·exact .inr (.inr (.inr (by show some gs=some k;rw [show k=gs from e])))
 ·rw [lnV_new] at e
  obtain ⟨j4,e⟩:=o4 j k e
  exact .inr (.inr (.inl ⟨j,j4,e⟩))
 ·have es:s=(Sv.nil,Sv.nil,.slice none 0 0):=by
   unfold nilSl at hs
   rw [List.getElem?_replicate] at hs
   split at hs
   ·cases hs;rfl
   ·cases hs
  rw [es] at e
  rcases e with e | e <;> simp [inBlock,Sv.nil] at e
theorem fNew_yes (sp:Int) (vT vP vL:Value) (T:List (Int×Int)) (Q L:List (Int×Int×Int×Int)) (w:World) (iT:Inl w 2 vT (T.map tRow)) (iP:Inl w 4 vP (Q.map qRow)) (iL:Inl w 4 vL (L.map qRow)) (hf:Fits sp T Q L) :
  Calls Tryz.prog 42 #[.agg #[.int .i64 sp,vT,vP,vL]] w fun e w'=>∃ x S,e=.returned (.tuple #[.pointer (some ⟨x,0,none⟩),.int .i64 0])/\ProgRep w' x S (RK.new sp T Q L).up/\Below w.heap.size w w'/\∀ b,S b->w.heap.size<=b:=by
 obtain ⟨n,rfl⟩:=Int.eq_ofNat_of_zero_le (show 0<=sp by have:=hf.1;omega)
 obtain ⟨aT,cT,eT⟩:=iT.slice
 obtain ⟨aP,cP,eP⟩:=iP.slice
 obtain ⟨aL,cL,eL⟩:=iL.slice
 rw [List.length_map] at eT eP eL
 subst eT eP eL
 have B:=mNew_yes n aT aP aL T.length Q.length L.length cT cP cL T Q L (w.alloc (.cells #[.int .i64 n,.slice aT T.length cT,.slice aP Q.length cP,.slice aL L.length cL] 32)) (iT.alloc (by omega) _) (iP.alloc (by omega) _) (iL.alloc (by omega) _) rfl rfl rfl hf
 have HB:=hid B
 have HF:1<=n/\1<=T.length:=⟨by have:=hf.1;omega,by have:=hf.2.1;omega⟩
 clear B hf iT iP iL
 generalize hmT:T.length=mT at *
 generalize hmP:Q.length=mP at *
 generalize hmL:L.length=mL at *
 have HM:=hid (And.intro hmT (And.intro hmP (And.intro hmL HF)))
 clear hmT hmP hmL HF
 go_enter Tryz.func42,Tryz.ntmps42
 go_wp2_with fail
 refine HB.out.mono ?_
 rintro e w2 ⟨x,ln,vt,rv,vs,rfl,M,Ln,Bw,Ow⟩
 obtain ⟨a1,n1,c1,e1⟩:∃ a n c,vt=.slice a n c:=by obtain ⟨a,c,h⟩:=M.th.slice;exact ⟨_,_,_,h⟩
 obtain ⟨b0,k0,d0,e20⟩:∃ a n c,rv 0=.slice a n c:=by obtain ⟨a,c,h⟩:=(M.li 0 (by omega)).slice;exact ⟨_,_,_,h⟩
 obtain ⟨b1,k1,d1,e21⟩:∃ a n c,rv 1=.slice a n c:=by obtain ⟨a,c,h⟩:=(M.li 1 (by omega)).slice;exact ⟨_,_,_,h⟩
 obtain ⟨b2,k2,d2,e22⟩:∃ a n c,rv 2=.slice a n c:=by obtain ⟨a,c,h⟩:=(M.li 2 (by omega)).slice;exact ⟨_,_,_,h⟩
 obtain ⟨b3,k3,d3,e23⟩:∃ a n c,rv 3=.slice a n c:=by obtain ⟨a,c,h⟩:=(M.li 3 (by omega)).slice;exact ⟨_,_,_,h⟩
 obtain ⟨a6,n6,c6,e6⟩:∃ a n c,vs=.slice a n c:=by obtain ⟨a,c,h⟩:=M.sp.slice;exact ⟨_,_,_,h⟩
 have em:mcells 0 vt (rv 0) (rv 1) (rv 2) (rv 3) vs=#[.int .u64 0,.slice a1 n1 c1,.slice b0 k0 d0,.slice b1 k1 d1,.slice b2 k2 d2,.slice b3 k3 d3,.slice a6 n6 c6,.int .i64 0,.int .i64 0,.int .i64 0,.int .i64 0,.int .i64 0,.int .i64 0,.int .i64 0,.int .i64 0,.int .i64 0,.int .i64 0,.int .i64 0,.int .i64 0,.int .i64 0,.int .i64 0,.int .i64 0,.int .i64 0,.int .i64 0,.int .i64 0,.int .i64 0,.int .i64 0,.int .i64 0,.int .i64 0,.int .i64 0,.int .i64 0,.int .i64 0,.int .i64 0,.int .i64 0,.int .i64 0,.int .i64 0,.int .i64 0,.int .i64 0,.int .i64 0]:=by rw [e1,e20,e21,e22,e23,e6];rfl
 rw [em] at M ⊢
 have R:(w2.alloc (.cells #[.int .u64 0,.slice a1 n1 c1,.slice b0 k0 d0,.slice b1 k1 d1,.slice b2 k2 d2,.slice b3 k3 d3,.slice a6 n6 c6,.int .i64 0,.int .i64 0,.int .i64 0,.int .i64 0,.int .i64 0,.int .i64 0,.int .i64 0,.int .i64 0,.int .i64 0,.int .i64 0,.int .i64 0,.int .i64 0,.int .i64 0,.int .i64 0,.int .i64 0,.int .i64 0,.int .i64 0,.int .i64 0,.int .i64 0,.int .i64 0,.int .i64 0,.int .i64 0,.int .i64 0,.int .i64 0,.int .i64 0,.int .i64 0,.int .i64 0,.int .i64 0,.int .i64 0,.int .i64 0,.int .i64 0,.int .i64 0] 109)).rangeAt w2.heap.size 0 [.int .u64 0,.slice a1 n1 c1,.slice b0 k0 d0,.slice b1 k1 d1,.slice b2 k2 d2,.slice b3 k3 d3,.slice a6 n6 c6,.int .i64 0,.int .i64 0,.int .i64 0,.int .i64 0,.int .i64 0,.int .i64 0,.int .i64 0,.int .i64 0,.int .i64 0,.int .i64 0,.int .i64 0,.int .i64 0,.int .i64 0,.int .i64 0,.int .i64 0,.int .i64 0,.int .i64 0,.int .i64 0,.int .i64 0,.int .i64 0,.int .i64 0,.int .i64 0,.int .i64 0,.int .i64 0,.int .i64 0,.int .i64 0,.int .i64 0,.int .i64 0,.int .i64 0,.int .i64 0,.int .i64 0,.int .i64 0]:=fun j v hv=>by
  rw [cell_of_row _ _ (0+j) _ _ _ (heap_alloc_new w2 _),Nat.zero_add,List.getElem?_toArray];exact hv
 have HH:=hid (And.intro M (And.intro Ln (And.intro Bw (And.intro Ow R))))
 clear M Ln Bw Ow R e1 e20 e21 e22 e23 e6 em
 go_wp2_with (first
  | (with_reducible (show wpList _ _ _ (⟨_,.load 109 _,_,_,_,none⟩ :: _) _ _);go_must (refine wpList_load_mid rfl 109 _ rfl w2.heap.size 0 rfl _ _ HH.out.2.2.2.2 Tryz.underlying109 rfl (by kernel_rfl) ?_))
  | (with_reducible (show wpList _ _ _ (⟨_,.store 109 _ _,_,_,_,none⟩ :: _) _ _);go_must (refine wpList_store_new rfl 109 _ _ rfl w2 _ #[.int .u64 0,.slice a1 n1 c1,.slice b0 k0 d0,.slice b1 k1 d1,.slice b2 k2 d2,.slice b3 k3 d3,.slice a6 n6 c6,.int .i64 0,.int .i64 0,.int .i64 0,.int .i64 0,.int .i64 0,.int .i64 0,.int .i64 0,.int .i64 0,.int .i64 0,.int .i64 0,.int .i64 0,.int .i64 0,.int .i64 0,.int .i64 0,.int .i64 0,.int .i64 0,.int .i64 0,.int .i64 0,.int .i64 0,.int .i64 0,.int .i64 0,.int .i64 0,.int .i64 0,.int .i64 0,.int .i64 0,.int .i64 0,.int .i64 0,.int .i64 0,.int .i64 0,.int .i64 0,.int .i64 0,.int .i64 0] 109 (by simp [Act.eval]) rfl (by kernel_rfl) rfl ?_ ?_);(simp [Value.oneCell'])))
 go_ret2
 have hsz:=HH.out.2.2.1.size
 simp only [size_alloc] at hsz
 have MV:=fun A=>HH.out.1.move (((Fr.refl (fun _=>False) w2).alloc A).alloc _) (heap_alloc2_new w2 A _) (by omega)
 obtain ⟨S,RP,OS⟩:=prog_new (L:=L) (Q:=Q) (MV _) (by have:=HM.out.1;have:=HH.out.2.1;rw [HM.out.1];exact this) HM.out.2.2.2.1 (by have:=HM.out.2.2.2.2;have:=HM.out.1;omega)
 refine ⟨w2.heap.size+1,S,rfl,RP,?_,fun b hb=>?_⟩
 ·exact ((((Below.refl _ w).alloc (Nat.le_refl _) _).trans (HH.out.2.2.1.mono (by simp))).alloc (by omega) _).alloc (by simp;omega) _
 ·rcases OS b hb with e | e | e | e
  ·omega
  ·have:=HH.out.2.2.2.1 b (.inr (.inl e));simp at this;omega
  ·have:=HH.out.2.2.2.1 b (.inr (.inr (.inl e)));simp at this;omega
  ·have:=HH.out.2.2.2.1 b (.inr (.inr (.inr e)));simp at this;omega
theorem fNew_no (sp:Int) (vT vP vL:Value) (T:List (Int×Int)) (Q L:List (Int×Int×Int×Int)) (w:World) (hg:Gl w) (iT:Inl w 2 vT (T.map tRow)) (iP:Inl w 4 vP (Q.map qRow)) (iL:Inl w 4 vL (L.map qRow)) (hf:¬ Fits sp T Q L) :
  Calls Tryz.prog 42 #[.agg #[.int .i64 sp,vT,vP,vL]] w fun e w'=>e=.returned (.tuple #[.pointer none,.int .i64 1])/\Below w.heap.size w w':=by
 obtain ⟨aT,cT,eT⟩:=iT.slice
 obtain ⟨aP,cP,eP⟩:=iP.slice
 obtain ⟨aL,cL,eL⟩:=iL.slice
 rw [List.length_map] at eT eP eL
 subst eT eP eL
 by_cases hbad:¬ (1<=sp/\sp<=3)\/¬ (1<=T.length/\T.length<=6)
 ·have B:=mNew_se sp aT aP aL T.length Q.length L.length cT cP cL T Q L (w.alloc (.cells #[.int .i64 sp,.slice aT T.length cT,.slice aP Q.length cP,.slice aL L.length cL] 32)) (iT.alloc (by omega) _) (iP.alloc (by omega) _) (iL.alloc (by omega) _) rfl rfl rfl hbad
  have HB:=hid B
  clear B hf iT iP iL hbad
  generalize T.length=mT at *
  generalize Q.length=mP at *
  generalize L.length=mL at *
  go_enter Tryz.func42,Tryz.ntmps42
  go_wp2_with fail
  refine HB.out.mono ?_
  rintro e w2 ⟨s,rfl,Bw⟩
  have hg2:Gl (w2.alloc (.cells #[.int .u64 0,.slice none 0 0,.slice none 0 0,.slice none 0 0,.slice none 0 0,.slice none 0 0,.slice none 0 0,.int .i64 0,.int .i64 0,.int .i64 0,.int .i64 0,.int .i64 0,.int .i64 0,.int .i64 0,.int .i64 0,.int .i64 0,.int .i64 0,.int .i64 0,.int .i64 0,.int .i64 0,.int .i64 0,.int .i64 0,.int .i64 0,.int .i64 0,.int .i64 0,.int .i64 0,.int .i64 0,.int .i64 0,.int .i64 0,.int .i64 0,.int .i64 0,.int .i64 0,.int .i64 0,.int .i64 0,.int .i64 0,.int .i64 0,.int .i64 0,.int .i64 0,.int .i64 0] 109)):=(((hg.alloc _).below Bw).alloc _)
  have HBw:=hid (And.intro Bw hg2)
  clear Bw hg2
  unfold mcells
  go_wp2_with (first
   | (go_at_call 45;refine (number_met1 s 1 _ HBw.out.2).mono ?_;rintro e w3 ⟨rfl,H3⟩;replace H3:=hid H3)
   | (with_reducible (show wpList _ _ _ (⟨_,.store 109 _ _,_,_,_,none⟩ :: _) _ _);go_must (refine wpList_store_new rfl 109 _ _ rfl w2 _ #[.int .u64 0,.slice none 0 0,.slice none 0 0,.slice none 0 0,.slice none 0 0,.slice none 0 0,.slice none 0 0,.int .i64 0,.int .i64 0,.int .i64 0,.int .i64 0,.int .i64 0,.int .i64 0,.int .i64 0,.int .i64 0,.int .i64 0,.int .i64 0,.int .i64 0,.int .i64 0,.int .i64 0,.int .i64 0,.int .i64 0,.int .i64 0,.int .i64 0,.int .i64 0,.int .i64 0,.int .i64 0,.int .i64 0,.int .i64 0,.int .i64 0,.int .i64 0,.int .i64 0,.int .i64 0,.int .i64 0,.int .i64 0,.int .i64 0,.int .i64 0,.int .i64 0,.int .i64 0] 109 (by simp [Act.eval]) rfl (by kernel_rfl) rfl ?_ ?_);(simp [Value.oneCell'])))
  go_ret2
  have hsz:=HBw.out.1.size
  simp only [size_alloc] at hsz
  exact ⟨rfl,((((Below.refl _ w).alloc (Nat.le_refl _) _).trans (HBw.out.1.mono (by simp))).alloc (by omega) _).trans (H3.out.mono (by simp;omega))⟩
 ·have h1:1<=sp/\sp<=3:=Classical.byContradiction (fun h=>hbad (.inl h))
  have h2:1<=T.length/\T.length<=6:=Classical.byContradiction (fun h=>hbad (.inr h))
  have B:=mNew_me sp aT aP aL T.length Q.length L.length cT cP cL T Q L (w.alloc (.cells #[.int .i64 sp,.slice aT T.length cT,.slice aP Q.length cP,.slice aL L.length cL] 32)) (iT.alloc (by omega) _) (iP.alloc (by omega) _) (iL.alloc (by omega) _) rfl rfl rfl h1 h2 hf
  have HB:=hid B
  clear B hf iT iP iL hbad h2
  generalize T.length=mT at *
  generalize Q.length=mP at *
  generalize L.length=mL at *
  go_enter Tryz.func42,Tryz.ntmps42
  go_wp2_with fail
  refine HB.out.mono ?_
  rintro e w2 ⟨s,⟨s2,rfl⟩,Bw⟩
  have hg2:Gl (w2.alloc (.cells #[.int .u64 0,.slice none 0 0,.slice none 0 0,.slice none 0 0,.slice none 0 0,.slice none 0 0,.slice none 0 0,.int .i64 0,.int .i64 0,.int .i64 0,.int .i64 0,.int .i64 0,.int .i64 0,.int .i64 0,.int .i64 0,.int .i64 0,.int .i64 0,.int .i64 0,.int .i64 0,.int .i64 0,.int .i64 0,.int .i64 0,.int .i64 0,.int .i64 0,.int .i64 0,.int .i64 0,.int .i64 0,.int .i64 0,.int .i64 0,.int .i64 0,.int .i64 0,.int .i64 0,.int .i64 0,.int .i64 0,.int .i64 0,.int .i64 0,.int .i64 0,.int .i64 0,.int .i64 0] 109)):=(((hg.alloc _).below Bw).alloc _)
  have HBw:=hid (And.intro Bw hg2)
  clear Bw hg2
  unfold mcells
  go_wp2_with (first
   | (go_at_call 45;refine (number_met2 s s2 1 _ HBw.out.2).mono ?_;rintro e w3 ⟨rfl,H3⟩;replace H3:=hid H3)
   | (with_reducible (show wpList _ _ _ (⟨_,.store 109 _ _,_,_,_,none⟩ :: _) _ _);go_must (refine wpList_store_new rfl 109 _ _ rfl w2 _ #[.int .u64 0,.slice none 0 0,.slice none 0 0,.slice none 0 0,.slice none 0 0,.slice none 0 0,.slice none 0 0,.int .i64 0,.int .i64 0,.int .i64 0,.int .i64 0,.int .i64 0,.int .i64 0,.int .i64 0,.int .i64 0,.int .i64 0,.int .i64 0,.int .i64 0,.int .i64 0,.int .i64 0,.int .i64 0,.int .i64 0,.int .i64 0,.int .i64 0,.int .i64 0,.int .i64 0,.int .i64 0,.int .i64 0,.int .i64 0,.int .i64 0,.int .i64 0,.int .i64 0,.int .i64 0,.int .i64 0,.int .i64 0,.int .i64 0,.int .i64 0,.int .i64 0,.int .i64 0] 109 (by simp [Act.eval]) rfl (by kernel_rfl) rfl ?_ ?_);(simp [Value.oneCell'])))
  go_ret2
  have hsz:=HBw.out.1.size
  simp only [size_alloc] at hsz
  exact ⟨rfl,((((Below.refl _ w).alloc (Nat.le_refl _) _).trans (HBw.out.1.mono (by simp))).alloc (by omega) _).trans (H3.out.mono (by simp;omega))⟩
end Go.Proofs.YteejjgbeknnmeaaGreatDoor
