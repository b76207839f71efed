import Derived.Test.YteejjgbeknnmeaaGreatDoorRows
import Derived.StillTailTactics
import Derived.WalkKit
import Derived.Test.YteejjgbeknnmeaaGreatDoorG13
import Derived.Deep.QuietTactic
import Derived.BigQuiet
import Derived.BigRegion
set_option maxRecDepth 100000
set_option maxHeartbeats 20000000
namespace Go.Proofs.YteejjgbeknnmeaaGreatDoor
open Go.RowKit
abbrev ops16:List Oper:=
 [{ dst:=some 65,op:=Op.move (Operand.tmp 5),type:=76,pos:= "law.go:142",after:=#[],guard:=none },
   {dst:=some 66,op:=Op.move (Operand.tmp 0),type:=22,pos:= "law.go:142",after:=#[],guard:=none },
   {dst:=some 67,op:=Op.move (Operand.tmp 7),type:=3,pos:= "law.go:142",after:=#[],guard:=none },
   {dst:=some 68,op:=Op.indexAddr 22 (Operand.tmp 66) (Operand.tmp 67),type:=0,pos:= "law.go:142",
    after:=#[{ on:=1,ground:=Ground.data },{ on:=2,ground:=Ground.data }],guard:=none },
   {dst:=some 69,op:=Op.load 87 (Operand.tmp 68),type:=87,pos:= "law.go:142",
    after:=#[{ on:=3,ground:=Ground.data }],guard:=none },
   {dst:=some 70,op:=Op.move (Operand.tmp 5),type:=76,pos:= "law.go:142",after:=#[],guard:=none },
   {dst:=some 71,op:=Op.nilCheck (Operand.tmp 70),type:=0,pos:= "law.go:142",
    after:=#[{ on:=5,ground:=Ground.data }],guard:=none },
   {dst:=some 72,op:=Op.fieldAddr 84 (Operand.tmp 71) 0,type:=0,pos:= "law.go:142",
    after:=#[{ on:=6,ground:=Ground.data }],guard:=none },
   {dst:=some 73,op:=Op.load 77 (Operand.tmp 72),type:=77,pos:= "law.go:142",
    after:=#[{ on:=7,ground:=Ground.data }],guard:=none },
   {dst:=some 74,op:=Op.move (Operand.tmp 0),type:=22,pos:= "law.go:142",after:=#[],guard:=none },
   {dst:=some 75,op:=Op.move (Operand.tmp 7),type:=3,pos:= "law.go:142",after:=#[],guard:=none },
   {dst:=some 76,op:=Op.indexAddr 22 (Operand.tmp 74) (Operand.tmp 75),type:=0,pos:= "law.go:142",
    after:=#[{ on:=9,ground:=Ground.data },{ on:=10,ground:=Ground.data }],guard:=none },
   {dst:=some 77,op:=Op.fieldAddr 87 (Operand.tmp 76) 1,type:=0,pos:= "law.go:142",
    after:=#[{ on:=11,ground:=Ground.data }],guard:=none },
   {dst:=some 78,op:=Op.load 3 (Operand.tmp 77),type:=3,pos:= "law.go:142",
    after:=#[{ on:=12,ground:=Ground.data }],guard:=none },
   {dst:=some 79,op:=Op.move (Operand.tmp 5),type:=76,pos:= "law.go:142",after:=#[],guard:=none },
   {dst:=some 80,op:=Op.nilCheck (Operand.tmp 79),type:=0,pos:= "law.go:142",
    after:=#[{ on:=14,ground:=Ground.data }],guard:=none },
   {dst:=some 81,op:=Op.fieldAddr 84 (Operand.tmp 80) 0,type:=0,pos:= "law.go:142",
    after:=#[{ on:=15,ground:=Ground.data }],guard:=none },
   {dst:=some 82,op:=Op.load 77 (Operand.tmp 81),type:=77,pos:= "law.go:142",
    after:=#[{ on:=16,ground:=Ground.data }],guard:=none },
   {dst:=some 83,
    op:=Op.call { callee:=Callee.builtin Builtin.len,args:=#[Operand.tmp 82],argTypes:=#[77] },type:=3,
    pos:= "law.go:142",after:=#[{ on:=17,ground:=Ground.data }],guard:=none },
   {dst:=some 84,
    op:=
     Op.call
      {callee:=Callee.value (Operand.func 37),args:=#[Operand.tmp 78,Operand.tmp 83],argTypes:=#[3,3] },
    type:=3,pos:= "law.go:142",
    after:=#[{ on:=13,ground:=Ground.data },{ on:=18,ground:=Ground.data }],guard:=none },
   {dst:=some 85,op:=Op.indexAddr 77 (Operand.tmp 73) (Operand.tmp 84),type:=0,pos:= "law.go:142",
    after:=#[{ on:=8,ground:=Ground.data },{ on:=19,ground:=Ground.data }],guard:=none },
   {dst:=some 86,op:=Op.load 91 (Operand.tmp 85),type:=91,pos:= "law.go:142",
    after:=#[{ on:=20,ground:=Ground.data }],guard:=none },
   {dst:=some 87,
    op:=
     Op.call
      {callee:=Callee.value (Operand.func 36),args:=#[Operand.tmp 65,Operand.tmp 69,Operand.tmp 86],
       argTypes:=#[76,87,91] },
    type:=4,pos:= "law.go:142",
    after:=
     #[{ on:=0,ground:=Ground.data },{ on:=4,ground:=Ground.data },{ on:=21,ground:=Ground.data },
      {on:=19,ground:=Ground.chain }],
    guard:=none },
   {dst:=some 6,op:=Op.assign (Operand.tmp 87),type:=4,pos:= "law.go:142",
    after:=
     #[{ on:=22,ground:=Ground.data },{ on:=22,ground:=Ground.chain },
      {on:=0,ground:=Ground.phase },{ on:=1,ground:=Ground.phase },
      {on:=2,ground:=Ground.phase },{ on:=3,ground:=Ground.phase },
      {on:=4,ground:=Ground.phase },{ on:=5,ground:=Ground.phase },
      {on:=6,ground:=Ground.phase },{ on:=7,ground:=Ground.phase },
      {on:=8,ground:=Ground.phase },{ on:=9,ground:=Ground.phase },
      {on:=10,ground:=Ground.phase },{ on:=11,ground:=Ground.phase },
      {on:=12,ground:=Ground.phase },{ on:=13,ground:=Ground.phase },
      {on:=14,ground:=Ground.phase },{ on:=15,ground:=Ground.phase },
      {on:=16,ground:=Ground.phase },{ on:=17,ground:=Ground.phase },
      {on:=18,ground:=Ground.phase },{ on:=19,ground:=Ground.phase },
      {on:=20,ground:=Ground.phase },{ on:=21,ground:=Ground.phase },
      {on:=22,ground:=Ground.phase }],
    guard:=none }]
theorem mx:Tryz.prog.follows .mixedOrders=true:=by kernel_rfl
theorem lex16:Region.lexTailB .any (ops16).toArray 22=true:=by kernel_rfl
open Go.RowKit
theorem region16 {Q:Exit->Act->World->Prop}{R8:World->Prop}(u1 u2 u3 u4 u6 u8 u9 u10 u11 u12 u13 u14 u15 u16 u17 u18 u19 u20 u21 u22 u23 u24 u25 u26 u27 u28 u29 u30 u31 u32 u33 u34 u35 u36 u37 u38 u39 u40 u41 u42 u43 u44 u45 u46 u47 u48 u49 u50 u51 u52 u53 u54 u55 u56 u57 u58 u59 u60 u61 u62 u63 u64 u65 u66 u67 u68 u69 u70 u71 u72 u73 u74 u75 u76 u77 u78 u79 u80 u81 u82 u83 u84 u85 u86 u87 u88 u89 u90 u91 u92 u93 u94 u95:Value) (b b1 o1 nS cS k g nP cp i x y:Nat) (v:OpV) (w:World) (hk:k < nS) (_hnS:nS<=900000000000) (hi:i < nP) (_hnP:nP<=900000000002)
  (R:w.rangeAt b1 (o1+k*18) v.row) (cps:w.cell? ⟨b,0,none⟩=some (.slice (some ⟨g,0,none⟩) nP cp)) (pc0:w.cell? ⟨g,i*2,none⟩=some (.pointer (some ⟨x,0,none⟩))) (pc1:w.cell? ⟨g,i*2+1,none⟩=some (.pointer (some ⟨y,0,none⟩)))
  (P9:Calls Tryz.prog 37 #[.int .i64 v.ka,.int .i64 nP] w.drew fun e w'=>e=.returned (.int .i64 i)/\w'=w.drew)
  (P8:Calls Tryz.prog 36 #[.pointer (some ⟨b,0,none⟩),.agg v.row.toArray,.agg #[.pointer (some ⟨x,0,none⟩),.pointer (some ⟨y,0,none⟩)]] w.drew fun e w'=>e=.returned (.bool true)/\R8 w')
  (hQ:∀ (z65 z66 z67 z68 z69 z70 z71 z72 z73 z74 z75 z76 z77 z78 z79 z80 z81 z82 z83 z84 z85 z86 z87:Value) (w4:World),R8 w4->Q .normal ⟨#[.slice (some ⟨b1,o1,none⟩) nS cS,u1,u2,u3,u4,.pointer (some ⟨b,0,none⟩),.bool true,.int .i64 k,u8,u9,u10,u11,u12,u13,u14,u15,u16,u17,u18,u19,u20,u21,u22,u23,u24,u25,u26,u27,u28,u29,u30,u31,u32,u33,u34,u35,u36,u37,u38,u39,u40,u41,u42,u43,u44,u45,u46,u47,u48,u49,u50,u51,u52,u53,u54,u55,u56,u57,u58,u59,u60,u61,u62,u63,u64,z65,z66,z67,z68,z69,z70,z71,z72,z73,z74,z75,z76,z77,z78,z79,z80,z81,z82,z83,z84,z85,z86,z87,u88,u89,u90,u91,u92,u93,u94,u95],[]⟩ w4) :
  (Code.region 16 ops16.toArray true).wp Tryz.prog Q ⟨#[.slice (some ⟨b1,o1,none⟩) nS cS,u1,u2,u3,u4,.pointer (some ⟨b,0,none⟩),u6,.int .i64 k,u8,u9,u10,u11,u12,u13,u14,u15,u16,u17,u18,u19,u20,u21,u22,u23,u24,u25,u26,u27,u28,u29,u30,u31,u32,u33,u34,u35,u36,u37,u38,u39,u40,u41,u42,u43,u44,u45,u46,u47,u48,u49,u50,u51,u52,u53,u54,u55,u56,u57,u58,u59,u60,u61,u62,u63,u64,u65,u66,u67,u68,u69,u70,u71,u72,u73,u74,u75,u76,u77,u78,u79,u80,u81,u82,u83,u84,u85,u86,u87,u88,u89,u90,u91,u92,u93,u94,u95],[]⟩ w:=by
 have hk':(k:Int) < (nS:Int):=by omega
 have hi':(i:Int) < (nP:Int):=by omega
 have gg0:w.cell? ⟨b1,o1+k*18,none⟩=some (.int .i64 v.kd):=R 0 (.int .i64 v.kd) rfl
 have gg1:w.cell? ⟨b1,o1+k*18+1,none⟩=some (.int .i64 v.ka):=R 1 (.int .i64 v.ka) rfl
 have gg2:w.cell? ⟨b1,o1+k*18+2,none⟩=some (.int .i64 v.kb):=R 2 (.int .i64 v.kb) rfl
 have gg3:w.cell? ⟨b1,o1+k*18+3,none⟩=some (.int .i64 v.kcc):=R 3 (.int .i64 v.kcc) rfl
 have gg4:w.cell? ⟨b1,o1+k*18+4,none⟩=some (.int .i64 v.kd2):=R 4 (.int .i64 v.kd2) rfl
 have gg5:w.cell? ⟨b1,o1+k*18+5,none⟩=some (.int .i64 v.kn):=R 5 (.int .i64 v.kn) rfl
 have gg6:w.cell? ⟨b1,o1+k*18+6,none⟩=some (.bool v.ky):=R 6 (.bool v.ky) rfl
 have gg7:w.cell? ⟨b1,o1+k*18+7,none⟩=some (.int .i64 v.m0):=R 7 (.int .i64 v.m0) rfl
 have gg8:w.cell? ⟨b1,o1+k*18+8,none⟩=some (.slice v.aw v.nw v.cw):=R 8 (.slice v.aw v.nw v.cw) rfl
 have gg9:w.cell? ⟨b1,o1+k*18+9,none⟩=some (.int .i64 v.m2):=R 9 (.int .i64 v.m2) rfl
 have gg10:w.cell? ⟨b1,o1+k*18+10,none⟩=some (.int .i64 v.m3):=R 10 (.int .i64 v.m3) rfl
 have gg11:w.cell? ⟨b1,o1+k*18+11,none⟩=some (.int .i64 v.m4):=R 11 (.int .i64 v.m4) rfl
 have gg12:w.cell? ⟨b1,o1+k*18+12,none⟩=some (.int .i64 v.m5):=R 12 (.int .i64 v.m5) rfl
 have gg13:w.cell? ⟨b1,o1+k*18+13,none⟩=some (.int .i64 v.m6):=R 13 (.int .i64 v.m6) rfl
 have gg14:w.cell? ⟨b1,o1+k*18+14,none⟩=some (.int .i64 v.sp):=R 14 (.int .i64 v.sp) rfl
 have gg15:w.cell? ⟨b1,o1+k*18+15,none⟩=some (.slice v.aT v.mT v.cT):=R 15 (.slice v.aT v.mT v.cT) rfl
 have gg16:w.cell? ⟨b1,o1+k*18+16,none⟩=some (.slice v.aP v.mP v.cP):=R 16 (.slice v.aP v.mP v.cP) rfl
 have gg17:w.cell? ⟨b1,o1+k*18+17,none⟩=some (.slice v.aL v.mL v.cL):=R 17 (.slice v.aL v.mL v.cL) rfl
 have HP:=hid (And.intro P9 (And.intro P8 hQ))
 clear P9 P8 hQ R
 refine wp_region_still_tail (l:=ops16) 22 mx lex16 ?_
 simp only [List.take_succ_cons,List.take_zero,List.drop_succ_cons,List.drop_zero]
 still_step
 still_step
 still_step
 still_step
 still_step
 still_step
 still_step
 still_step
 still_step
 still_step
 still_step
 still_step
 still_step
 still_step
 still_step
 still_step
 still_step
 still_step
 still_step
 still_call HP.out.1
 still_step
 still_step
 refine wpStill_nil ?_
 go_wp2_with (go_at_call 36;refine HP.out.2.1.mono ?_;rintro e w4 ⟨rfl,h8⟩)
 exact HP.out.2.2 _ _ _ _ _ _ _ _ _ _ _ _ _ _ _ _ _ _ _ _ _ _ _ w4 h8
open Go.RowKit
def ksS:List Int:=[1,2,3,4,5,11,12]
def ksA:List Int:=[1,2,3,4,5,6,7,8,9,10,11,12]
def ksB:List Int:=[1,2,3,5,11,12]
def ksH:List Int:=[1,2,3,5,6,7,8,9,10,11,12]
theorem fits_ex:Fits 2 exT exQ exL:=by
 have at3:∀ {α:Type}{l:List α}{i:Nat}{p:α},l[i]? = some p->p∈l:=fun h=>List.mem_of_getElem? h
 refine ⟨by omega,by decide,?_,?_,?_,?_,?_⟩
 ·intro i p hp
  have:=at3 hp
  simp [exT] at this
  rcases this with rfl | rfl <;> simp [okT]
 ·intro i p hp
  have:=at3 hp
  simp [exQ] at this
  rcases this with rfl | rfl <;> simp [okQ,exT]
 ·intro i k p q hk hp hq
  have hi:=(List.getElem?_eq_some_iff.1 hp).1
  simp [exQ] at hi
  have e1:i=1:=by omega
  have e2:k=0:=by omega
  subst e1 e2
  simp [exQ] at hp hq
  subst hp hq
  simp
 ·intro i p hp
  have:=at3 hp
  simp [exL] at this
  subst this
  simp [okQ]
 ·intro i k p q hk hp hq
  have hi:=(List.getElem?_eq_some_iff.1 hp).1
  simp [exL] at hi
  omega
section
variable {Rep:World->Nat->(Nat->Prop)->RM->Prop}(A:ApM Rep)
theorem inv_start {W w:World}(hg:Gl W) (hb:Below W.heap.size W w) (hw:w.heap[W.heap.size]? = some (.cells #[.slice none 0 0,.slice none 0 0,.slice none 0 0,.slice none 0 0] 84 (0,0))) :
  Inv Rep (fun k=>if k < W.heap.size then 0 else 1) W.heap.size 0 w (.slice none 0 0) (fun _=>.slice none 0 0) (fun _=>[]) []:=by
 have n0:∀ k,Value.ownBlock (.slice none 0 0)=some k->False:=fun k h=>by simp [Value.ownBlock] at h
 refine ⟨fun w' T f t=>?_,Loc.heap hw (by simp),by simp,Loc.sl (Sl.nil _ _ _) (fun k h=>(n0 k h).elim),fun k h=>(n0 k h).elim,fun j _ _=>Loc.sl (Sl.nil _ _ _) (fun k h=>(n0 k h).elim),fun j _ _ k h=>(n0 k h).elim,fun j _ _ w' T f t k hk=>absurd hk (by simp),by simp,by simp,by simp,by simp,by simp,by simp,by simp⟩
 have h0:=hg.lt
 exact (hg.below hb).fr f (fun ht=>t 0 (Nat.lt_of_lt_of_le h0 hb.size) ht (by simp [h0]))
theorem loc_start {W w:World}(hb:Below W.heap.size W w):Loc (fun k=>if k < W.heap.size then 0 else 1) 0 (Below W.heap.size W) w:=by
 intro w' T f t
 exact ⟨f.os.trans hb.os,f.tape.trans hb.tape,f.output.trans hb.output,Nat.le_trans hb.size f.size,fun k hk=>(f.block k (Nat.lt_of_lt_of_le hk hb.size) (fun ht=>t k (Nat.lt_of_lt_of_le hk hb.size) ht (if_pos hk))).trans (hb.block k hk)⟩
end
theorem looks_inv {Rep:World->Nat->(Nat->Prop)->RM->Prop}{o:Nat->Nat}{b n:Nat}{w:World}{ps:Value}{lv:Nat->Value}{rows:Nat->List (List Value)}{prs:List Pr}(h:Inv Rep o b n w ps lv rows prs) (hn:n<=1000000000000) :
  Calls Tryz.prog 38 #[.pointer (some ⟨b,1,none⟩)] w fun e w'=>e=.returned (.bool true)/\Below w.heap.size w w':=
 looks_any b ps (lv 1) (lv 2) (lv 3) (rows 1) (rows 2) (rows 3) w h.lb.now (h.lj 1 (by omega) (by omega)).now (h.lj 2 (by omega) (by omega)).now (h.lj 3 (by omega) (by omega)).now (by have:=h.nj 1 (by omega) (by omega);omega) (by have:=h.nj 2 (by omega) (by omega);omega) (by have:=h.nj 3 (by omega) (by omega);omega) (h.mj 1 (by omega) (by omega)).now (h.mj 2 (by omega) (by omega)).now (h.mj 3 (by omega) (by omega)).now
theorem plays_any {Rep:World->Nat->(Nat->Prop)->RM->Prop}(A:ApM Rep) (aS:Option Addr) (nS cS:Nat) (vs:List OpV) (kb:Nat) (W:World) (hg:Gl W) (hS:Inl W 18 (.slice aS nS cS) (vs.map OpV.row)) (hv:∀ (i:Nat) v,vs[i]? = some v->v.Ok W) (hl:vs.length=nS) (hn:nS<=900000000000)
  (ks:List Int) (nk:Nat) (hkl:ks.length=nk) (hk12:nk<=12) (hsub:∀ z,z∈ks->z=1\/z=2\/z=3\/z=4\/z=5\/z=6\/z=7\/z=8\/z=9\/z=10\/z=11\/z=12) (hkb:W.heap[kb]? = some (.cells (ks.map (Value.int .i64)).toArray 3 (0,0))) :
  Calls Tryz.prog 14 #[.slice aS nS cS,.slice (some ⟨kb,0,none⟩) nk nk] W fun e w'=>e=.returned (.bool true)/\Below W.heap.size W w':=by
 have HI:=hid (And.intro hS (And.intro hv (And.intro hl (And.intro hg hkb))))
 have HKS:=hid (And.intro hkl hsub)
 clear hS hv hl hg hkb hkl hsub
 go_enter Tryz.func14,Tryz.ntmps14
 go_wp2_with (go_at_call 35;refine (example_any _).mono ?_;rintro e w1 ⟨b1,b2,b3,rfl,i1,i2,i3,B1,z1,z2,z3⟩;have H1:=hid (And.intro i1 (And.intro i2 (And.intro i3 (And.intro B1 (And.intro z1 (And.intro z2 z3))))));clear i1 i2 i3 B1 z1 z2 z3)
 have hW1:Below W.heap.size W w1:=((Below.refl _ W).alloc (Nat.le_refl _) _).trans (H1.out.2.2.2.1.mono (by simp))
 have hbx:=(H1.out.2.2.2.1.block W.heap.size (by simp)).trans (heap_alloc_new W _)
 have I0:=inv_start (Rep:=Rep) HI.out.2.2.2.1 hW1 hbx
 have L0:=loc_start hW1
 refine (made_yes A W.heap.size 0 0 0 0 0 0 false 0 0 0 0 0 0 none 0 0 2 (some ⟨b1,0,none⟩) (some ⟨b2,0,none⟩) (some ⟨b3,0,none⟩) 2 2 1 2 2 1 exT exQ exL w1 I0.lg.now (by omega) (by omega) (by omega) rfl rfl rfl H1.out.1 H1.out.2.1 H1.out.2.2.1 fits_ex (by decide) (by decide) _ _ _ _ [] hbx (Sl.nil _ _ _) (by simp) (by simp [Value.ownBlock])).mono ?_
 rintro e w2 ⟨rfl,x,y,S,Z,ps2,M⟩
 have I2:=I0.push A M (new_okM fits_ex _)
 have L2:Loc (oPush (fun k=>if k < W.heap.size then 0 else 1) w1 ([]:List Pr).length S Z) 0 (Below W.heap.size W) w2:=L0.kept M.fr (fun k _ ht e=>by
  rcases ht with rfl | ht
  ·have h:=I0.cb;omega
  ·simp [Value.ownBlock] at ht) (fun k hk e=>by unfold oPush;rw [if_pos hk];exact e)
 generalize oPush (fun k=>if k < W.heap.size then 0 else 1) w1 ([]:List Pr).length S Z=o2 at I2 L2
 generalize hpr2:([] ++ [Pr.mk x y S (RK.new 2 exT exQ exL).up Z]:List Pr)=prs2 at I2
 have hp2:prs2.length=1:=by rw [<- hpr2];rfl
 obtain ⟨ap,cp,eps⟩:=I2.ls.now.slice
 rw [List.length_map,hp2] at eps
 subst eps
 have cps:=(cell_of_row w2 W.heap.size 0 _ _ _ I2.lb.now).trans (show _=some (Value.slice ap 1 cp) from rfl)
 have H2:=hid (And.intro I2 (And.intro L2 hp2))
 clear I2 L2 hp2 hpr2 M I0 L0 hW1 hbx H1
 go_wp2_with fail
 go_loopw [7] (fun i wr=>∃ (k n:Nat) (o:Nat->Nat) (ps:Value) (lv:Nat->Value) (rows:Nat->List (List Value)) (prs:List Pr),k<=nS/\i=.int .i64 k/\Hid (n<=k+1/\Inv Rep o W.heap.size n wr ps lv rows prs/\0 < prs.length/\Loc o 0 (Below W.heap.size W) wr)) (fun i _=>nS-(intOf i).toNat)
 case atStart=>exact ⟨0,1,o2,_,_,_,prs2,Nat.zero_le _,rfl,Nat.le_refl _,H2.out.1,by rw [H2.out.2.2];omega,H2.out.2.1⟩
 case round=>
  obtain ⟨k,n,o,ps,lv,rows,prs,hk,rfl,HC⟩:=hrel
  rename World=>wa
  by_cases hkn:k < nS
  ·obtain ⟨v,hv⟩:∃ v,vs[k]? = some v:=⟨_,List.getElem?_eq_getElem (by have:=HI.out.2.2.1;omega)⟩
   obtain ⟨b1,o1,ea,r0⟩:=HI.out.1.row (k:=k) (r:=v.row) (by rw [List.getElem?_map,hv];rfl)
   subst ea
   have lb0:b1 < W.heap.size:=block_lt_of_cell (r0 0 (.int .i64 v.kd) rfl)
   have r1:=rangeAt_cells r0 (HC.out.2.2.2.now.block b1 lb0)
   have g0:wa.cell? ⟨b1,o1+k*18,none⟩=some (.int .i64 v.kd):=r1 0 (.int .i64 v.kd) rfl
   have g1:wa.cell? ⟨b1,o1+k*18+1,none⟩=some (.int .i64 v.ka):=r1 1 (.int .i64 v.ka) rfl
   have HV:=hid (And.intro hv r1)
   have hkn':(k:Int) < (nS:Int):=by omega
   clear hv r0 r1
   have lkb:kb < W.heap.size:=(Array.getElem?_eq_some_iff.1 HI.out.2.2.2.2).1
   have kblk:=(HC.out.2.2.2.now.block kb lkb).trans HI.out.2.2.2.2
   have HK:=hid kblk
   clear kblk
   go_wp2_with fail
   go_loopw [8,9] (fun tin tj wq=>∃ j:Nat,j<=nk/\tj=.int .i64 j/\tin=.bool (decide (v.kd∈ks.take j))/\Hid (Below wa.heap.size wa wq)) (fun _ tj _=>nk-(intOf tj).toNat)
   case atStart=>exact ⟨0,Nat.zero_le _,rfl,by simp,Below.refl _ _⟩
   case round=>
    obtain ⟨j,hj,rfl,rfl,HQ⟩:=hrel
    by_cases hj6:j < nk
    ·obtain ⟨z,hz⟩:∃ z,ks[j]? = some z:=⟨_,List.getElem?_eq_getElem (by rw [HKS.out.1];exact hj6)⟩
     have kblk:=(HQ.out.block kb (Nat.lt_of_lt_of_le lkb HC.out.2.2.2.now.size)).trans HK.out
     have kcj:wr.cell? ⟨kb,j,none⟩=some (.int .i64 z):=by
      rw [cell_of_row wr kb j _ _ _ kblk,List.getElem?_toArray,List.getElem?_map,hz];rfl
     have lb1:b1 < wa.heap.size:=block_lt_of_cell g0
     have g0q:wr.cell? ⟨b1,o1+k*18,none⟩=some (.int .i64 v.kd):=(HQ.out.cell (p:=⟨b1,o1+k*18,none⟩) lb1).trans g0
     have hj6':(j:Int) < (nk:Int):=by omega
     have ein:decide (v.kd∈ks.take (j+1))=(decide (v.kd∈ks.take j) || (v.kd == z)):=by
      have:ks.take (j+1)=ks.take j ++ [z]:=by
       obtain ⟨h1,h2⟩:=List.getElem?_eq_some_iff.1 hz
       rw [List.take_succ_eq_append_getElem h1,h2]
      rw [this,Bool.eq_iff_iff]
      simp
     have HE:=hid ein
     clear kblk hz ein
     cases hin:decide (v.kd∈ks.take j) with
     | true=>
      have HIN:=hid hin
      clear hin
      go_wp2_with fail
      go_quiet (fail)
      go_wp2
      exact ⟨⟨j+1,by omega,by go_num,by rw [HE.out,HIN.out];rfl,below_drewN HQ.out _⟩,by simp [intOf];omega⟩
     | false=>
      have HIN:=hid hin
      clear hin
      go_wp2_with fail
      go_quiet (fail)
      go_wp2
      exact ⟨⟨j+1,by omega,by go_num,by rw [HE.out,HIN.out];rfl,below_drewN HQ.out _⟩,by simp [intOf];omega⟩
    ·have hj':j=nk:=by omega
     subst hj'
     have I3:=HC.out.2.1.below A (o':=o) HQ.out (fun _ _=>rfl)
     have L3:=HC.out.2.2.2.belowStay HQ.out (o':=o) (fun _ _=>rfl)
     have r3:=rangeAt_cells HV.out.2 (HQ.out.block b1 (block_lt_of_cell g0))
     have g0q:wr.cell? ⟨b1,o1+k*18,none⟩=some (.int .i64 v.kd):=r3 0 (.int .i64 v.kd) rfl
     have g1q:wr.cell? ⟨b1,o1+k*18+1,none⟩=some (.int .i64 v.ka):=r3 1 (.int .i64 v.ka) rfl
     have hv3:=(HI.out.2.1 k v HV.out.1).below L3.now
     have ek6:ks.take j=ks:=List.take_of_length_le (by rw [HKS.out.1];exact Nat.le_refl _)
     rw [ek6]
     have H3:=hid (And.intro I3 (And.intro L3 (And.intro r3 hv3)))
     clear I3 L3 r3 hv3 ek6
     cases hin:decide (v.kd∈ks) with
     | false=>
      go_wp2
      exact ⟨⟨k+1,n,o,ps,lv,rows,prs,by omega,by go_num,by have:=HC.out.1;omega,H3.out.1,HC.out.2.2.1,H3.out.2.1⟩,by simp [intOf];omega⟩
     | true=>
      have hmem:=HKS.out.2 v.kd (by simpa using hin)
      by_cases h1:v.kd=1
      ·have d1:(v.kd == 1)=true:=by simp [h1]
       have hM:=step_made A H3.out.1 HC.out.2.2.1 (by have:=HC.out.1;omega) v H3.out.2.2.2
       have HM:=hid hM
       clear hM hmem h1
       go_wp2_with (first
        | (with_reducible (show wpList _ _ _ (⟨_,.load 87 _,_,_,_,none⟩ :: _) _ _);go_must (refine wpList_load_mid rfl 87 _ rfl b1 (o1+k*18) rfl _ _ H3.out.2.2.1 Tryz.underlying87 rfl (by kernel_rfl) ?_))
        | (go_at_call 34;refine HM.out.mono ?_;rintro e w4 ⟨rfl,o4,ps4,lv4,rows4,prs4,I4,m4,p4,l4⟩;have H4:=hid (And.intro I4 (And.intro m4 (And.intro p4 l4)));clear I4 m4 p4 l4)
        | (go_at_call 38;refine (looks_inv H4.out.1 (by have:=HC.out.1;omega)).mono ?_;rintro e w5 ⟨rfl,B5⟩;replace B5:=hid B5))
       exact ⟨⟨k+1,n+1,o4,ps4,lv4,rows4,prs4,by omega,by go_num,by have:=HC.out.1;omega,H4.out.1.below A B5.out (fun _ _=>rfl),H4.out.2.2.1,(H4.out.2.2.2 _ H3.out.2.1).belowStay B5.out (fun _ _=>rfl)⟩,by simp [intOf];omega⟩
      ·have d1:(v.kd == 1)=false:=by simp [h1]
       obtain ⟨ap,cp,eps⟩:=H3.out.1.ls.now.slice
       rw [List.length_map] at eps
       obtain ⟨nP,hnP⟩:∃ m,prs.length=m:=⟨_,rfl⟩
       have hp0:0 < nP:=by have:=HC.out.2.2.1;omega
       have hnq:nP<=n+1:=by have:=H3.out.1.nq;omega
       have hPk:=pick_any v.ka nP wr.drew H3.out.2.2.2.a1 H3.out.2.2.2.a2 (by omega) (by have:=HC.out.1;omega)
       have hrange:0<=pickI v.ka nP/\pickI v.ka nP < nP:=⟨Int.emod_nonneg _ (by omega),Int.emod_lt_of_pos _ (by omega)⟩
       obtain ⟨i,hi⟩:=Int.eq_ofNat_of_zero_le hrange.1
       rw [hi] at hPk
       have hinP:i < nP:=by omega
       have hinP':(i:Int) < (nP:Int):=by omega
       obtain ⟨pq,hpq⟩:∃ pq,prs[i]? = some pq:=⟨_,List.getElem?_eq_getElem (by omega)⟩
       have hsl:=H3.out.1.ls.now
       rw [eps,hnP] at hsl
       obtain ⟨g,ea,hx⟩:=hsl.is_some (by omega)
       rw [ea] at hsl
       have rp:=hsl.row (i:=i) (r:=prRow pq) (by rw [List.getElem?_map,hpq];rfl)
       have pc0:wr.cell? ⟨g,i*2,none⟩=some (.pointer (some ⟨pq.x,0,none⟩)):=rp 0 _ rfl
       have pc1:wr.cell? ⟨g,i*2+1,none⟩=some (.pointer (some ⟨pq.y,0,none⟩)):=rp 1 _ rfl
       have cps3:wr.cell? ⟨W.heap.size,0,none⟩=some (.slice (some ⟨g,0,none⟩) nP cp):=((cell_of_row wr W.heap.size 0 _ _ _ H3.out.1.lb.now).trans (show _=some ps from rfl)).trans (by rw [eps,hnP,ea])
       have hM:=step_works A (H3.out.1.below A (o':=o) ((Below.refl _ wr).drew) (fun _ _=>rfl)) (by have:=HC.out.1;omega) hpq v ((H3.out.2.1.belowStay ((Below.refl _ wr).drew) (o':=o) (fun _ _=>rfl)).mono (fun w' hb=>(HI.out.2.1 k v HV.out.1).below hb)) (by omega)
       have HM:=hid (And.intro hM hPk)
       clear hM hPk hmem h1 eps hnP hrange hi hpq hsl hx ea rp
       go_wp2_with fail
       refine region16 _ _ _ _ _ _ _ _ _ _ _ _ _ _ _ _ _ _ _ _ _ _ _ _ _ _ _ _ _ _ _ _ _ _ _ _ _ _ _ _ _ _ _ _ _ _ _ _ _ _ _ _ _ _ _ _ _ _ _ _ _ _ _ _ _ _ _ _ _ _ _ _ _ _ _ _ _ _ _ _ _ _ _ _ _ _ _ _ _ _ _ _ _ W.heap.size b1 o1 nS cS k g nP cp i pq.x pq.y v wr hkn hn hinP (by have:=HC.out.1;omega) H3.out.2.2.1 cps3 pc0 pc1 HM.out.2 HM.out.1 ?_
       intro z65 z66 z67 z68 z69 z70 z71 z72 z73 z74 z75 z76 z77 z78 z79 z80 z81 z82 z83 z84 z85 z86 z87 w4 h8
       obtain ⟨o4,ps4,lv4,rows4,prs4,I4,m4,p4,l4⟩:=h8
       have H4:=hid (And.intro I4 (And.intro m4 (And.intro p4 l4)))
       clear I4 m4 p4 l4
       go_wp2_with (go_at_call 38;refine (looks_inv H4.out.1 (by have:=HC.out.1;omega)).mono ?_;rintro e w5 ⟨rfl,B5⟩;replace B5:=hid B5)
       exact ⟨⟨k+1,n+1,o4,ps4,lv4,rows4,prs4,by omega,by go_num,by have:=HC.out.1;omega,H4.out.1.below A B5.out (fun _ _=>rfl),H4.out.2.2.1,(H4.out.2.2.2 _ (H3.out.2.1.belowStay ((Below.refl _ wr).drew) (fun _ _=>rfl))).belowStay B5.out (fun _ _=>rfl)⟩,by simp [intOf];omega⟩
  ·go_wp2
   go_ret
   exact ⟨rfl,HC.out.2.2.2.now⟩
theorem boots_any {Rep:World->Nat->(Nat->Prop)->RM->Prop}(A:ApM Rep) (aS:Option Addr) (nS cS:Nat) (vs:List OpV) (W:World) (hg:Gl W) (hS:Inl W 18 (.slice aS nS cS) (vs.map OpV.row)) (hv:∀ (i:Nat) v,vs[i]? = some v->v.Ok W) (hl:vs.length=nS) (hn:nS<=900000000000) :
  Calls Tryz.prog 3 #[.slice aS nS cS] W fun e w'=>e=.returned (.bool true)/\Below W.heap.size W w':=by
 have hb:Below W.heap.size W (W.alloc (.cells #[.int .i64 1,.int .i64 2,.int .i64 3,.int .i64 5,.int .i64 11,.int .i64 12] 3)):=(Below.refl _ W).alloc (Nat.le_refl _) _
 have C:=plays_any A aS nS cS vs W.heap.size _ (hg.below hb) (hS.below (by omega) hb) (fun i v h=>(hv i v h).below hb) hl hn ksB 6 rfl (by omega) (fun z hz=>by simp [ksB] at hz;omega) (heap_alloc_new W _)
 have HC:=hid (And.intro C hb)
 clear C hb hS hv hl hg
 go_enter Tryz.func3,Tryz.ntmps3
 go_wp2_with (go_at_call 14;refine HC.out.1.mono ?_;rintro e w1 ⟨rfl,B1⟩)
 go_ret
 exact ⟨rfl,HC.out.2.trans (B1.mono (by simp))⟩
theorem holds_any {Rep:World->Nat->(Nat->Prop)->RM->Prop}(A:ApM Rep) (aS:Option Addr) (nS cS:Nat) (vs:List OpV) (W:World) (hg:Gl W) (hS:Inl W 18 (.slice aS nS cS) (vs.map OpV.row)) (hv:∀ (i:Nat) v,vs[i]? = some v->v.Ok W) (hl:vs.length=nS) (hn:nS<=900000000000) :
  Calls Tryz.prog 4 #[.slice aS nS cS] W fun e w'=>e=.returned (.bool true)/\Below W.heap.size W w':=by
 have hb:Below W.heap.size W (W.alloc (.cells #[.int .i64 1,.int .i64 2,.int .i64 3,.int .i64 5,.int .i64 6,.int .i64 7,.int .i64 8,.int .i64 9,.int .i64 10,.int .i64 11,.int .i64 12] 3)):=(Below.refl _ W).alloc (Nat.le_refl _) _
 have C:=plays_any A aS nS cS vs W.heap.size _ (hg.below hb) (hS.below (by omega) hb) (fun i v h=>(hv i v h).below hb) hl hn ksH 11 rfl (by omega) (fun z hz=>by simp [ksH] at hz;omega) (heap_alloc_new W _)
 have HC:=hid (And.intro C hb)
 clear C hb hS hv hl hg
 go_enter Tryz.func4,Tryz.ntmps4
 go_wp2_with (go_at_call 14;refine HC.out.1.mono ?_;rintro e w1 ⟨rfl,B1⟩)
 go_ret
 exact ⟨rfl,HC.out.2.trans (B1.mono (by simp))⟩
theorem speaks_any {Rep:World->Nat->(Nat->Prop)->RM->Prop}(A:ApM Rep) (aS:Option Addr) (nS cS:Nat) (vs:List OpV) (W:World) (hg:Gl W) (hS:Inl W 18 (.slice aS nS cS) (vs.map OpV.row)) (hv:∀ (i:Nat) v,vs[i]? = some v->v.Ok W) (hl:vs.length=nS) (hn:nS<=900000000000) :
  Calls Tryz.prog 5 #[.slice aS nS cS] W fun e w'=>e=.returned (.bool true)/\Below W.heap.size W w':=by
 have hb:Below W.heap.size W (W.alloc (.cells #[.int .i64 1,.int .i64 2,.int .i64 3,.int .i64 4,.int .i64 5,.int .i64 11,.int .i64 12] 3)):=(Below.refl _ W).alloc (Nat.le_refl _) _
 have C:=plays_any A aS nS cS vs W.heap.size _ (hg.below hb) (hS.below (by omega) hb) (fun i v h=>(hv i v h).below hb) hl hn ksS 7 rfl (by omega) (fun z hz=>by simp [ksS] at hz;omega) (heap_alloc_new W _)
 have HC:=hid (And.intro C hb)
 clear C hb hS hv hl hg
 go_enter Tryz.func5,Tryz.ntmps5
 go_wp2_with (go_at_call 14;refine HC.out.1.mono ?_;rintro e w1 ⟨rfl,B1⟩)
 go_ret
 exact ⟨rfl,HC.out.2.trans (B1.mono (by simp))⟩
theorem all_any {Rep:World->Nat->(Nat->Prop)->RM->Prop}(A:ApM Rep) (aS:Option Addr) (nS cS:Nat) (vs:List OpV) (W:World) (hg:Gl W) (hS:Inl W 18 (.slice aS nS cS) (vs.map OpV.row)) (hv:∀ (i:Nat) v,vs[i]? = some v->v.Ok W) (hl:vs.length=nS) (hn:nS<=900000000000) :
  Calls Tryz.prog 6 #[.slice aS nS cS] W fun e w'=>e=.returned (.bool true)/\Below W.heap.size W w':=by
 have hb:Below W.heap.size W (W.alloc (.cells #[.int .i64 1,.int .i64 2,.int .i64 3,.int .i64 4,.int .i64 5,.int .i64 6,.int .i64 7,.int .i64 8,.int .i64 9,.int .i64 10,.int .i64 11,.int .i64 12] 3)):=(Below.refl _ W).alloc (Nat.le_refl _) _
 have C:=plays_any A aS nS cS vs W.heap.size _ (hg.below hb) (hS.below (by omega) hb) (fun i v h=>(hv i v h).below hb) hl hn ksA 12 rfl (by omega) (fun z hz=>by simp [ksA] at hz;omega) (heap_alloc_new W _)
 have HC:=hid (And.intro C hb)
 clear C hb hS hv hl hg
 go_enter Tryz.func6,Tryz.ntmps6
 go_wp2_with (go_at_call 14;refine HC.out.1.mono ?_;rintro e w1 ⟨rfl,B1⟩)
 go_ret
 exact ⟨rfl,HC.out.2.trans (B1.mono (by simp))⟩
end Go.Proofs.YteejjgbeknnmeaaGreatDoor
