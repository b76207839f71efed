import Derived.Test.YteejjgbeknnmeaaGreatDoorJ18
import Derived.Test.YteejjgbeknnmeaaGreatDoorJ26
import Derived.Test.YteejjgbeknnmeaaGreatDoorJ25
set_option maxRecDepth 100000
set_option maxHeartbeats 20000000
namespace Go.Proofs.YteejjgbeknnmeaaGreatDoor
open Go.RowKit
def luA (gs:Nat) (o:Option Lf):Option Addr:=match o with | none=>none | some l=>if l.usp < 0 then none else some ⟨gs,l.usp.toNat*30+12+l.upg.toNat*3,none⟩
theorem lu_eq (gs:Nat) (o:Option Lf):lu gs o=.pointer (luA gs o):=by
 cases o with
 | none=>rfl
 | some l=>simp only [lu,luA,upV];split <;> rfl
theorem la_quad (L:List Lf) (s n:Int):la (findLf L s n)=pa (findQ (L.map quad) s n)/\lb (findLf L s n)=pb (findQ (L.map quad) s n):=by
 rw [find_quad];cases findLf L s n <;> exact ⟨rfl,rfl⟩
theorem sp_range {w:World}{B:Bk}{M:PM}{cs:Array Value}{rv:Nat->Value}{sl:List (Sv×Sv×Value)}(h:PmAt w B M cs rv sl){t:Nat}(ht:t < M.sp.toNat):w.rangeAt B.gs (t*30) (six M.passes t)/\w.rangeAt B.gs (t*30+12) (pages B.gs M.leaves t):=by
 have R:=h.sp.row (i:=t) (r:=spRowM B.gs M.passes M.leaves t) (sprows_get ht)
 constructor
 ·intro j v hv
  have hj:=(List.getElem?_eq_some_iff.1 hv).1
  exact R j v (by unfold spRowM;rw [List.getElem?_append_left hj];exact hv)
 ·intro j v hv
  have:=R (12+j) v (by unfold spRowM;rw [List.getElem?_append_right (by rw [six_len];omega),six_len,Nat.add_sub_cancel_left];exact hv)
  rwa [<- Nat.add_assoc] at this
structure TwoNew (Q L:List (Int×Int×Int×Int)) (t:Int) (w:World) (v u:Value) (w':World):Prop where
 vs:Sl w' 55 4 v ((told Q t 6).map qRow)
 us:Sl w' 67 4 u ((told L t 6).map qRow)
 below:Below w.heap.size w w'
 new:∀ b,v.ownBlock=some b\/u.ownBlock=some b->w.heap.size<=b
 ne:∀ b,v.ownBlock=some b->u.ownBlock≠some b
theorem TwoNew.kept {Q L:List (Int×Int×Int×Int)}{t:Int}{w:World}{v u:Value}{w1 w2:World}(h:TwoNew Q L t w v u w1){T:Nat->Prop}(hf:Fr T w1 w2) (ht:∀ k,T k->w.heap.size<=k/\v.ownBlock≠some k/\u.ownBlock≠some k):TwoNew Q L t w v u w2:=
 ⟨h.vs.kept hf (fun k hk q=>(ht k q).2.1 hk),h.us.kept hf (fun k hk q=>(ht k q).2.2 hk),h.below.trans (hf.to_below h.below.size (fun k q=>(ht k q).1)),h.new,h.ne⟩
theorem set2c {w:World}{g:Nat}{a0 a1 b0 b1:Value}{t:TypeId}(h:w.heap[g]? = some (.cells #[a0,a1] t (0,0))) :
  ((w.setCell ⟨g,0,none⟩ b0).setCell ⟨g,1,none⟩ b1).heap[g]? = some (.cells #[b0,b1] t (0,0))/\Fr (fun k=>k=g) w ((w.setCell ⟨g,0,none⟩ b0).setCell ⟨g,1,none⟩ b1):=
 ⟨heap_setCell_same _ g 1 _ t b1 (heap_setCell_same w g 0 _ t b0 h),((Fr.refl (fun k=>k=g) w).setCell (p:=⟨g,0,none⟩) (fun _=>rfl) _).setCell (p:=⟨g,1,none⟩) (fun _=>rfl) _⟩
theorem mSpace_no (B:Bk) (S:Nat->Prop) (K:RM) (n:Nat) (t:Int) (w:World) (h:KR w B S K) (ok:K.Ok n) (ht:¬ (0<=t/\t < K.sp)) :
  Calls Tryz.prog 89 #[.pointer (some ⟨B.x,0,none⟩),.int .i64 t] w fun e w'=>∃ s,e=.returned (.tuple #[.agg #[.slice none 0 0,.slice none 0 0],.iface 166 (.agg #[.string s,.iface 160 (.agg #[.int .i64 3])])])/\Below w.heap.size w w':=by
 obtain ⟨M,⟨cs,rv,sl,hm,hS⟩,R⟩:=h
 have hc6:=(hm.cell 6).trans hm.c6
 have lx:=hm.lx
 have s3:M.sp.toNat<=3:=by have:=ok.ft.sp3;rw [R.sp];omega
 have HT:Hid (¬ (0<=t/\t < (M.sp.toNat:Int))):=by unfold Hid;rw [R.sp];omega
 have hne:=e3_ne
 generalize M.sp.toNat=m at *
 clear hm hS ht R ok
 go_enter Tryz.func89,Tryz.ntmps89
 go_wp2_with (go_at_call 140;refine (pickS_no _ m B.cp t _ HT.out).mono ?_;rintro e w1 ⟨rfl,rfl⟩)
 exact bodyPost_ret (results_row_tmp Tryz.results89 _ _ w.heap.size 122 _ (0,0) _ _ rfl (heap_alloc_new w _) Tryz.underlying122 rfl (by kernel_rfl) rfl) rfl ⟨_,rfl,(Below.refl _ w).alloc (Nat.le_refl _) _⟩
theorem mSpace_yes (B:Bk) (S:Nat->Prop) (K:RM) (n:Nat) (t:Nat) (w:World) (h:KR w B S K) (ok:K.Ok n) (ht:(t:Int) < K.sp) :
  Calls Tryz.prog 89 #[.pointer (some ⟨B.x,0,none⟩),.int .i64 t] w fun e w'=>∃ av nv cv au nu cu,e=.returned (.tuple #[.agg #[.slice av nv cv,.slice au nu cu],.nilIface])/\TwoNew K.passes (K.leaves.map quad) t w (.slice av nv cv) (.slice au nu cu) w':=by
 obtain ⟨M,⟨cs,rv,sl,hm,hS⟩,R⟩:=h
 have hc6:=(hm.cell 6).trans hm.c6
 have lx:=hm.lx
 have s3:M.sp.toNat<=3:=by have:=ok.ft.sp3;rw [R.sp];omega
 have htm:t < M.sp.toNat:=by rw [R.sp];omega
 have hgl:B.gs < w.heap.size:=hm.ls
 have RR:=sp_range hm htm
 rw [R.ps,R.lf,six_eq,pages_eq] at RR
 simp only [lu_eq,(la_quad _ _ _).1,(la_quad _ _ _).2] at RR
 have rq:∀ (i:Nat) p,K.passes[i]? = some p->p.2.2.2≠0:=fun i p hp=>by have:=(ok.oq i p hp).2.2.2.2.2.2.1;omega
 have rl:∀ (i:Nat) p,(K.leaves.map quad)[i]? = some p->p.2.2.2≠0:=fun i p hp=>by
  rw [List.getElem?_map] at hp
  obtain ⟨l,hl,rfl⟩:=Option.map_eq_some_iff.1 hp
  have:=ok.lf l (List.mem_of_getElem? hl)
  unfold okLf at this
  simp only [quad];omega
 have RL:w.rangeAt B.gs (t*30+12) [.int .i64 (pa (findQ (K.leaves.map quad) t 0)),.int .i64 (pb (findQ (K.leaves.map quad) t 0)),.pointer ((fun k:Nat=>luA B.gs (findLf K.leaves t k)) 0),.int .i64 (pa (findQ (K.leaves.map quad) t 1)),.int .i64 (pb (findQ (K.leaves.map quad) t 1)),.pointer ((fun k:Nat=>luA B.gs (findLf K.leaves t k)) 1),.int .i64 (pa (findQ (K.leaves.map quad) t 2)),.int .i64 (pb (findQ (K.leaves.map quad) t 2)),.pointer ((fun k:Nat=>luA B.gs (findLf K.leaves t k)) 2),.int .i64 (pa (findQ (K.leaves.map quad) t 3)),.int .i64 (pb (findQ (K.leaves.map quad) t 3)),.pointer ((fun k:Nat=>luA B.gs (findLf K.leaves t k)) 3),.int .i64 (pa (findQ (K.leaves.map quad) t 4)),.int .i64 (pb (findQ (K.leaves.map quad) t 4)),.pointer ((fun k:Nat=>luA B.gs (findLf K.leaves t k)) 4),.int .i64 (pa (findQ (K.leaves.map quad) t 5)),.int .i64 (pb (findQ (K.leaves.map quad) t 5)),.pointer ((fun k:Nat=>luA B.gs (findLf K.leaves t k)) 5)]:=RR.2
 have HR:=hid (And.intro (And.intro RR.1 RL) (And.intro rq rl))
 generalize M.sp.toNat=m at *
 clear hm hS ht RR RL rq rl R ok
 generalize (fun k:Nat=>luA B.gs (findLf K.leaves t k))=up at *
 generalize K.passes=Q at *
 generalize K.leaves.map quad=L at *
 go_enter Tryz.func89,Tryz.ntmps89
 go_wp2_with (first
  | (go_at_call 140;refine (pickS_yes B.gs m B.cp t _ htm).mono ?_;rintro e w1 ⟨rfl,rfl⟩)
  | (go_at_call 141;refine (tellPasses_any B.gs (t*30) t Q (w.alloc (.cells #[.slice none 0 0,.slice none 0 0] 122)) (by simp;omega) (World.rangeAt_alloc HR.out.1.1 _) HR.out.2.1).mono ?_;rintro e w2 ⟨av,nv,cv,rfl,H2⟩;replace H2:=hid H2)
  | (go_at_call 142;refine (tellLeaves_any B.gs (t*30) t L up w2 ?_ ?_ HR.out.2.2).mono ?_;(have:=H2.out.2.1.size;simp at this;omega);(exact rangeAt_cells (World.rangeAt_alloc HR.out.1.2 _) (H2.out.2.1.block B.gs (by simp;omega)));rintro e w3 ⟨au,nu,cu,rfl,H3⟩;replace H3:=hid H3;have hb3:Hid (w3.heap[w.heap.size]? = some (.cells #[.slice none 0 0,.slice none 0 0] 122 (0,0))):=((H3.out.2.1.block _ (by have:=H2.out.2.1.size;simp at this;omega)).trans ((H2.out.2.1.block _ (by simp)).trans (heap_alloc_new w _)));have hc0:w3.cell? ⟨w.heap.size,0,none⟩=some (.slice none 0 0):=(cell_of_row w3 _ 0 _ _ _ hb3.out).trans rfl;have hc1:w3.cell? ⟨w.heap.size,1,none⟩=some (.slice none 0 0):=(cell_of_row w3 _ 1 _ _ _ hb3.out).trans rfl;have hf0:=frozen_of_row w3 w.heap.size 0 _ _ hb3.out;have hf1:=frozen_of_row w3 w.heap.size 1 _ _ hb3.out))
 have S2:=set2c (b0:=.slice av nv cv) (b1:=.slice au nu cu) hb3.out
 refine bodyPost_ret (results_row_tmp Tryz.results89 _ _ w.heap.size 122 _ (0,0) _ _ rfl S2.1 Tryz.underlying122 rfl (by kernel_rfl) rfl) rfl ⟨_,_,_,_,_,_,rfl,?_⟩
 have z2:=H2.out.2.1.size
 have z3:=H3.out.2.1.size
 simp only [size_alloc] at z2
 have nv':∀ k,Value.ownBlock (.slice av nv cv)=some k->w.heap.size+1<=k:=fun k hk=>by have:=H2.out.2.2 k hk;simpa using this
 have nu':∀ k,Value.ownBlock (.slice au nu cu)=some k->w2.heap.size<=k:=H3.out.2.2
 have T3:TwoNew Q L t w (.slice av nv cv) (.slice au nu cu) w3:=by
  refine ⟨H2.out.1.kept (Fr.of_below H3.out.2.1 (fun _=>False)) (fun _ _ h=>h),H3.out.1,?_,?_,?_⟩
  ·exact (((Below.refl _ w).alloc (Nat.le_refl _) _).trans (H2.out.2.1.mono (by simp))).trans (H3.out.2.1.mono (by omega))
  ·rintro b (hb | hb)
   ·have:=nv' b hb;omega
   ·have:=nu' b hb;omega
  ·intro b hb hb2
   have:=H2.out.1.lt hb
   have:=nu' b hb2
   omega
 refine T3.kept S2.2 (fun k e=>⟨by omega,fun h=>by have:=nv' k h;omega,fun h=>by have:=nu' k h;omega⟩)
theorem fSpace_no (B:Bk) (S:Nat->Prop) (K:RM) (n:Nat) (t:Int) (w:World) (hg:Gl w) (h:KR w B S K) (ok:K.Ok n) (ht:¬ (0<=t/\t < K.sp)) :
  Calls Tryz.prog 52 #[.pointer (some ⟨B.x,0,none⟩),.int .i64 t] w fun e w'=>e=.returned (.tuple #[.agg #[.slice none 0 0,.slice none 0 0],.int .i64 3])/\Below w.heap.size w w':=by
 have C:=hid (mSpace_no B S K n t (w.alloc (.cells #[.slice none 0 0,.slice none 0 0] 122)) (h.alloc _) ok ht)
 clear h ok ht
 go_enter Tryz.func52,Tryz.ntmps52
 go_wp2_with (go_at_call 89;refine C.out.mono ?_;rintro e w2 ⟨s,rfl,H2⟩;replace H2:=hid H2)
 have hb2:w2.heap[w.heap.size]? = some (.cells #[.slice none 0 0,.slice none 0 0] 122 (0,0)):=(H2.out.block _ (by simp)).trans (heap_alloc_new w _)
 have lw2:w.heap.size < w2.heap.size:=(Array.getElem?_eq_some_iff.1 hb2).1
 have B3:∀ w3:World,Below (w2.alloc (.cells #[.slice none 0 0,.slice none 0 0] 122)).drew.heap.size (w2.alloc (.cells #[.slice none 0 0,.slice none 0 0] 122)).drew w3->Hid (w3.heap[w2.heap.size]? = some (.cells #[.slice none 0 0,.slice none 0 0] 122 (0,0))/\w3.heap[w.heap.size]? = some (.cells #[.slice none 0 0,.slice none 0 0] 122 (0,0))/\Below w.heap.size w w3):=by
  intro w3 h3
  have hh:(w2.alloc (.cells #[.slice none 0 0,.slice none 0 0] 122)).drew.heap.size=w2.heap.size+1:=by simp
  rw [hh] at h3
  refine ⟨(h3.block _ (by omega)).trans (heap_alloc_new w2 _),(h3.block _ (by omega)).trans ((Below.heap_alloc w2 _ _ lw2).trans hb2),?_⟩
  have hB:Below w.heap.size w w2:=(((Below.refl _ w).alloc (Nat.le_refl _) _).trans (H2.out.mono (by simp)))
  exact (hB.alloc (by omega) _).drew.trans (h3.mono (by omega))
 have HB3:=hid B3
 clear B3 hb2
 go_region_with (go_at_call 45;refine (number_met1 s 3 (w2.alloc (.cells #[.slice none 0 0,.slice none 0 0] 122)).drew ((((hg.alloc _).below (by rw [size_alloc];simpa using H2.out)).alloc _))).mono ?_;rintro e w3 ⟨rfl,H3⟩;have G3:=HB3.out w3 H3;have c30:w3.cell? ⟨w2.heap.size,0,none⟩=some (.slice none 0 0):=(cell_of_row w3 _ 0 _ _ _ G3.out.1).trans rfl;have c31:w3.cell? ⟨w2.heap.size,1,none⟩=some (.slice none 0 0):=(cell_of_row w3 _ 1 _ _ _ G3.out.1).trans rfl;have d30:w3.cell? ⟨w.heap.size,0,none⟩=some (.slice none 0 0):=(cell_of_row w3 _ 0 _ _ _ G3.out.2.1).trans rfl;have d31:w3.cell? ⟨w.heap.size,1,none⟩=some (.slice none 0 0):=(cell_of_row w3 _ 1 _ _ _ G3.out.2.1).trans rfl;have f30:=frozen_of_row w3 w.heap.size 0 _ _ G3.out.2.1;have f31:=frozen_of_row w3 w.heap.size 1 _ _ G3.out.2.1;clear H3)
 all_goals
  try go_wp2
  exact bodyPost_ret (results_row_tmp Tryz.results52 _ _ w.heap.size 122 _ (0,0) _ _ rfl (set2c G3.out.2.1).1 Tryz.underlying122 rfl (by kernel_rfl) rfl) rfl ⟨rfl,(G3.out.2.2.setCell (p:=⟨w.heap.size,0,none⟩) (Nat.le_refl _) _).setCell (p:=⟨w.heap.size,1,none⟩) (Nat.le_refl _) _⟩
theorem fSpace_yes (B:Bk) (S:Nat->Prop) (K:RM) (n:Nat) (t:Nat) (w:World) (h:KR w B S K) (ok:K.Ok n) (ht:(t:Int) < K.sp) :
  Calls Tryz.prog 52 #[.pointer (some ⟨B.x,0,none⟩),.int .i64 t] w fun e w'=>∃ av nv cv au nu cu,e=.returned (.tuple #[.agg #[.slice av nv cv,.slice au nu cu],.int .i64 0])/\TwoNew K.passes (K.leaves.map quad) t w (.slice av nv cv) (.slice au nu cu) w':=by
 have C:=hid (mSpace_yes B S K n t (w.alloc (.cells #[.slice none 0 0,.slice none 0 0] 122)) (h.alloc _) ok ht)
 clear h ok ht
 generalize K.passes=Q at *
 generalize K.leaves.map quad=L at *
 go_enter Tryz.func52,Tryz.ntmps52
 go_wp2_with (go_at_call 89;refine C.out.mono ?_;rintro e w2 ⟨av,nv,cv,au,nu,cu,rfl,H2⟩;replace H2:=hid H2)
 have hb2:w2.heap[w.heap.size]? = some (.cells #[.slice none 0 0,.slice none 0 0] 122 (0,0)):=(H2.out.below.block _ (by simp)).trans (heap_alloc_new w _)
 have lw2:w.heap.size < w2.heap.size:=(Array.getElem?_eq_some_iff.1 hb2).1
 have B3:∀ w3:World,Below (w2.alloc (.cells #[.slice av nv cv,.slice au nu cu] 122)).drew.heap.size (w2.alloc (.cells #[.slice av nv cv,.slice au nu cu] 122)).drew w3->Hid (w3.heap[w2.heap.size]? = some (.cells #[.slice av nv cv,.slice au nu cu] 122 (0,0))/\w3.heap[w.heap.size]? = some (.cells #[.slice none 0 0,.slice none 0 0] 122 (0,0))/\TwoNew Q L t (w.alloc (.cells #[.slice none 0 0,.slice none 0 0] 122)) (.slice av nv cv) (.slice au nu cu) w3):=by
  intro w3 h3
  have hh:(w2.alloc (.cells #[.slice av nv cv,.slice au nu cu] 122)).drew.heap.size=w2.heap.size+1:=by simp
  rw [hh] at h3
  refine ⟨(h3.block _ (by omega)).trans (heap_alloc_new w2 _),(h3.block _ (by omega)).trans ((Below.heap_alloc w2 _ _ lw2).trans hb2),?_⟩
  have hf:Fr (fun _=>False) w2 w3:=(((Fr.refl (fun _=>False) w2).alloc _).drew).trans (Fr.of_below (by rw [hh];exact h3) _)
  exact H2.out.kept hf (fun _ h=>h.elim)
 have HB3:=hid B3
 clear B3 hb2
 go_region_with (go_at_call 45;refine (number_nil _).mono ?_;rintro e w3 ⟨rfl,H3⟩;have G3:=HB3.out w3 H3;have c30:w3.cell? ⟨w2.heap.size,0,none⟩=some (.slice av nv cv):=(cell_of_row w3 _ 0 _ _ _ G3.out.1).trans rfl;have c31:w3.cell? ⟨w2.heap.size,1,none⟩=some (.slice au nu cu):=(cell_of_row w3 _ 1 _ _ _ G3.out.1).trans rfl;have d30:w3.cell? ⟨w.heap.size,0,none⟩=some (.slice none 0 0):=(cell_of_row w3 _ 0 _ _ _ G3.out.2.1).trans rfl;have d31:w3.cell? ⟨w.heap.size,1,none⟩=some (.slice none 0 0):=(cell_of_row w3 _ 1 _ _ _ G3.out.2.1).trans rfl;have f30:=frozen_of_row w3 w.heap.size 0 _ _ G3.out.2.1;have f31:=frozen_of_row w3 w.heap.size 1 _ _ G3.out.2.1;clear H3)
 all_goals
  try go_wp2
  have S2:=set2c (b0:=.slice av nv cv) (b1:=.slice au nu cu) G3.out.2.1
  refine bodyPost_ret (results_row_tmp Tryz.results52 _ _ w.heap.size 122 _ (0,0) _ _ rfl S2.1 Tryz.underlying122 rfl (by kernel_rfl) rfl) rfl ⟨_,_,_,_,_,_,rfl,?_⟩
  have N:=G3.out.2.2
  have n1:=N.new
  simp only [size_alloc] at n1
  have N':TwoNew Q L t w (.slice av nv cv) (.slice au nu cu) w3:=⟨N.vs,N.us,((Below.refl _ w).alloc (Nat.le_refl _) _).trans (N.below.mono (by simp)),fun b hb=>by have:=n1 b hb;omega,N.ne⟩
  exact N'.kept S2.2 (fun k e=>⟨by omega,fun h=>by have:=n1 k (.inl h);omega,fun h=>by have:=n1 k (.inr h);omega⟩)
open Go.RowKit
theorem KLeft.after {w w2 w3:World}{B:Bk}{S:Nat->Prop}{act:Nat->Prop}{K:RM}(h:KLeft B S act K w w2) (hb:Below w2.heap.size w2 w3):KLeft B S act K w w3:=by
 obtain ⟨M,⟨⟨S',h1,h2⟩,h3⟩,R⟩:=h
 exact ⟨M,⟨⟨S',h1.below hb,h2⟩,h3.trans (Fr.of_below hb S)⟩,R⟩
section
variable (B:Bk) (S:Nat->Prop) (K:RM) (n:Nat) (w:World)
theorem fCurrent_any (h:KR w B S K) (ok:K.Ok n) :
  Calls Tryz.prog 18 #[.pointer (some ⟨B.x,0,none⟩)] w fun e w'=>e=.returned (.int .i64 K.cur)/\Below w.heap.size w w':=by
 obtain ⟨M,h,R⟩:=h
 have C:=hid (mCurrent_any B S none_ M K w h R ok.ft)
 clear h R ok
 go_enter Tryz.func18,Tryz.ntmps18
 go_wp2_with (go_at_call 43;refine C.out.mono ?_;rintro e w2 ⟨rfl,rfl⟩)
 go_ret
 exact ⟨rfl,Below.refl _ _⟩
theorem fTick_any (h:KR w B S K) (ok:K.Ok n) (hn:n<=1000000000000000) :
  Calls Tryz.prog 19 #[.pointer (some ⟨B.x,0,none⟩)] w fun e w'=>e=.returned (.tuple #[])/\KLeft B S none_ K.tick w w':=by
 obtain ⟨M,h,R⟩:=h
 have C:=hid (mTick_any B S M K n w h R ok hn)
 clear h ok R
 go_enter Tryz.func19,Tryz.ntmps19
 go_wp2_with (go_at_call 44;refine C.out.mono ?_;rintro e w2 ⟨rfl,H2⟩;replace H2:=hid H2)
 go_end0
 exact ⟨rfl,H2.out⟩
theorem mYield_any (h:KR w B S K) (ok:K.Ok n) :
  Calls Tryz.prog 46 #[.pointer (some ⟨B.x,0,none⟩)] w fun e w'=>Ans K.yield.1 e w w'/\KLeft B S none_ K.yield.2 w w':=by
 by_cases hc:K.cur < 0
 ·have E:K.yield=(2,K):=by unfold RM.yield;rw [if_pos hc]
  obtain ⟨M,hp,R⟩:=h
  refine (mYield_no B S M K w hp R ok.ft hc).mono ?_
  rintro e w' ⟨rfl,rfl⟩
  rw [E]
  exact ⟨.inr ⟨_,rfl,Below.refl _ _⟩,⟨M,PLeft.refl hp,R⟩⟩
 ·obtain ⟨t,u,et,hu,s1⟩:=K.cur_in hc
  have E:K.yield=(0,(K.setLeft t 3).toLast t):=by unfold RM.yield;rw [if_neg hc,et,Int.toNat_natCast]
  obtain ⟨M,hp,R⟩:=h
  refine (mYield_yes B S M K _ t w hp R ok.ft ok.nm et).mono ?_
  rintro e w' ⟨rfl,H⟩
  rw [E]
  exact ⟨.inl ⟨rfl,rfl⟩,H⟩
theorem fLoad_any (pg ce:Int) (hg:Gl w) (h:KR w B S K) (ok:K.Ok n) :
  Calls Tryz.prog 41 #[.pointer (some ⟨B.x,0,none⟩),.int .i64 pg,.int .i64 ce] w fun e w'=>e=.returned (.tuple #[.int .i64 (K.load pg ce).1,.int .i64 (K.load pg ce).2])/\Below w.heap.size w w':=by
 have HC:=hid (mLoad_any B S K n w h ok pg ce)
 have HG:=hid hg
 clear h ok hg
 go_enter Tryz.func41,Tryz.ntmps41
 go_wp2_with fail
 refine HC.out.mono ?_
 rintro e w2 ⟨B2,⟨v,E,rfl⟩ | ⟨cd,st,E,rfl⟩⟩
 ·have HB:=hid B2
  have HE:=hid E
  clear E B2
  go_wp2_with (go_at_call 45;refine (number_nil _).mono ?_;rintro e w3 ⟨rfl,H3⟩;replace H3:=hid H3)
  go_ret2
  exact ⟨by rw [HE.out];rfl,HB.out.trans (H3.out.mono HB.out.size)⟩
 ·have HB:=hid B2
  have HE:=hid E
  clear E B2
  go_wp2_with (go_at_call 45;refine (number_met1 st cd _ (HG.out.below HB.out)).mono ?_;rintro e w3 ⟨rfl,H3⟩;replace H3:=hid H3)
  go_ret2
  exact ⟨by rw [HE.out];rfl,HB.out.trans (H3.out.mono HB.out.size)⟩
theorem fYield_any (hg:Gl w) (h:KR w B S K) (ok:K.Ok n) :
  Calls Tryz.prog 22 #[.pointer (some ⟨B.x,0,none⟩)] w fun e w'=>e=.returned (.int .i64 (K.yield.1))/\KLeft B S none_ (K.yield.2) w w':=by
 have HC:=hid (mYield_any B S K n w h ok)
 have HG:=hid hg
 clear h ok hg
 generalize K.yield.1=cd at *
 generalize K.yield.2=K2 at *
 go_enter Tryz.func22,Tryz.ntmps22
 go_wp2_with fail
 refine HC.out.mono ?_
 rintro e w2 ⟨⟨rfl,rfl⟩ | ⟨st,rfl,BB⟩,R2⟩
 ·have HB:=hid R2
  clear R2
  go_wp2_with (go_at_call 45;refine (number_nil _).mono ?_;rintro e w3 ⟨rfl,H3⟩;replace H3:=hid H3)
  go_ret
  exact ⟨rfl,HB.out.after H3.out⟩
 ·have G2:Gl w2:=HG.out.below BB
  have HB:=hid R2
  have HG2:=hid G2
  clear R2 G2 BB
  go_wp2_with (go_at_call 45;refine (number_met1 st cd _ HG2.out).mono ?_;rintro e w3 ⟨rfl,H3⟩;replace H3:=hid H3)
  go_ret
  exact ⟨rfl,HB.out.after H3.out⟩
theorem fStore_any (pg ce v:Int) (hg:Gl w) (h:KR w B S K) (ok:K.Ok n) :
  Calls Tryz.prog 39 #[.pointer (some ⟨B.x,0,none⟩),.int .i64 pg,.int .i64 ce,.int .i64 v] w fun e w'=>e=.returned (.int .i64 ((K.touch pg ce 2).2))/\KLeft B S none_ (K.stored pg ce v) w w':=by
 have HC:=hid (mStore_any B S K n w h ok pg ce v)
 have HG:=hid hg
 clear h ok hg
 generalize (K.touch pg ce 2).2=cd at *
 generalize K.stored pg ce v=K2 at *
 go_enter Tryz.func39,Tryz.ntmps39
 go_wp2_with fail
 refine HC.out.mono ?_
 rintro e w2 ⟨⟨rfl,rfl⟩ | ⟨st,rfl,BB⟩,R2⟩
 ·have HB:=hid R2
  clear R2
  go_wp2_with (go_at_call 45;refine (number_nil _).mono ?_;rintro e w3 ⟨rfl,H3⟩;replace H3:=hid H3)
  go_ret
  exact ⟨rfl,HB.out.after H3.out⟩
 ·have G2:Gl w2:=HG.out.below BB
  have HB:=hid R2
  have HG2:=hid G2
  clear R2 G2 BB
  go_wp2_with (go_at_call 45;refine (number_met1 st cd _ HG2.out).mono ?_;rintro e w3 ⟨rfl,H3⟩;replace H3:=hid H3)
  go_ret
  exact ⟨rfl,HB.out.after H3.out⟩
theorem fUnmap_any (pg:Int) (own:Bool) (hg:Gl w) (h:KR w B S K) (ok:K.Ok n) :
  Calls Tryz.prog 30 #[.pointer (some ⟨B.x,0,none⟩),.int .i64 pg,.bool own] w fun e w'=>e=.returned (.int .i64 ((K.unmap pg own).1))/\KLeft B S none_ ((K.unmap pg own).2) w w':=by
 have HC:=hid (mUnmap_any B S K n w h ok pg own)
 have HG:=hid hg
 clear h ok hg
 generalize (K.unmap pg own).1=cd at *
 generalize (K.unmap pg own).2=K2 at *
 go_enter Tryz.func30,Tryz.ntmps30
 go_wp2_with fail
 refine HC.out.mono ?_
 rintro e w2 ⟨⟨rfl,rfl⟩ | ⟨st,rfl,BB⟩,R2⟩
 ·have HB:=hid R2
  clear R2
  go_wp2_with (go_at_call 45;refine (number_nil _).mono ?_;rintro e w3 ⟨rfl,H3⟩;replace H3:=hid H3)
  go_ret
  exact ⟨rfl,HB.out.after H3.out⟩
 ·have G2:Gl w2:=HG.out.below BB
  have HB:=hid R2
  have HG2:=hid G2
  clear R2 G2 BB
  go_wp2_with (go_at_call 45;refine (number_met1 st cd _ HG2.out).mono ?_;rintro e w3 ⟨rfl,H3⟩;replace H3:=hid H3)
  go_ret
  exact ⟨rfl,HB.out.after H3.out⟩
theorem fDerive_any (a b r:Int) (hg:Gl w) (h:KR w B S K) (ok:K.Ok n) :
  Calls Tryz.prog 48 #[.pointer (some ⟨B.x,0,none⟩),.int .i64 a,.int .i64 b,.int .i64 r] w fun e w'=>e=.returned (.int .i64 ((K.derive a b r).1))/\KLeft B S none_ ((K.derive a b r).2) w w':=by
 have HC:=hid (mDerive_any B S K n w h ok a b r)
 have HG:=hid hg
 clear h ok hg
 generalize (K.derive a b r).1=cd at *
 generalize (K.derive a b r).2=K2 at *
 go_enter Tryz.func48,Tryz.ntmps48
 go_wp2_with fail
 refine HC.out.mono ?_
 rintro e w2 ⟨⟨rfl,rfl⟩ | ⟨st,rfl,BB⟩,R2⟩
 ·have HB:=hid R2
  clear R2
  go_wp2_with (go_at_call 45;refine (number_nil _).mono ?_;rintro e w3 ⟨rfl,H3⟩;replace H3:=hid H3)
  go_ret
  exact ⟨rfl,HB.out.after H3.out⟩
 ·have G2:Gl w2:=HG.out.below BB
  have HB:=hid R2
  have HG2:=hid G2
  clear R2 G2 BB
  go_wp2_with (go_at_call 45;refine (number_met1 st cd _ HG2.out).mono ?_;rintro e w3 ⟨rfl,H3⟩;replace H3:=hid H3)
  go_ret
  exact ⟨rfl,HB.out.after H3.out⟩
theorem fDrop_any (a:Int) (hg:Gl w) (h:KR w B S K) (ok:K.Ok n) :
  Calls Tryz.prog 49 #[.pointer (some ⟨B.x,0,none⟩),.int .i64 a] w fun e w'=>e=.returned (.int .i64 ((K.drop a).1))/\KLeft B S none_ ((K.drop a).2) w w':=by
 have HC:=hid (mDrop_any B S K n w h ok a)
 have HG:=hid hg
 clear h ok hg
 generalize (K.drop a).1=cd at *
 generalize (K.drop a).2=K2 at *
 go_enter Tryz.func49,Tryz.ntmps49
 go_wp2_with fail
 refine HC.out.mono ?_
 rintro e w2 ⟨⟨rfl,rfl⟩ | ⟨st,rfl,BB⟩,R2⟩
 ·have HB:=hid R2
  clear R2
  go_wp2_with (go_at_call 45;refine (number_nil _).mono ?_;rintro e w3 ⟨rfl,H3⟩;replace H3:=hid H3)
  go_ret
  exact ⟨rfl,HB.out.after H3.out⟩
 ·have G2:Gl w2:=HG.out.below BB
  have HB:=hid R2
  have HG2:=hid G2
  clear R2 G2 BB
  go_wp2_with (go_at_call 45;refine (number_met1 st cd _ HG2.out).mono ?_;rintro e w3 ⟨rfl,H3⟩;replace H3:=hid H3)
  go_ret
  exact ⟨rfl,HB.out.after H3.out⟩
end
end Go.Proofs.YteejjgbeknnmeaaGreatDoor
