import Derived.Test.YteejjgbeknnmeaaGreatDoorJ03
import Derived.Test.YteejjgbeknnmeaaGreatDoorJ11
import Derived.Test.YteejjgbeknnmeaaGreatDoorJ05
set_option maxRecDepth 100000
namespace Go.Proofs.YteejjgbeknnmeaaGreatDoor
open Go.RowKit Go.ChangeShapes Go.WideShapes Go.Deep
theorem open_ints {H:Type}{enc:TypeId×Value->H}{w:World}{base:Nat}{sp:Nat->Bool}{held:Bool}{fuel:Nat}{a:Option Addr}{m c:Nat}{x:DataW H×List MemPlace}(h:DataW.trod enc Tryz.prog w base sp held fuel 39 [.slice a m c]=some x) (hw:∀ q∈DataW.weights Tryz.prog 39 x.1,q<=reachBytes) :
  ∃ T:List Int,T.length=m/\Inl w 1 (.slice a m c) (T.map lnI)/\m<=c:=by
 obtain ⟨a',m',c',T,e,l,i,_⟩:=open_rows lnI Tryz.underlying39 (by kernel_rfl:Tryz.prog.cellsOf 2=1) (by kernel_rfl:Tryz.prog.bytesOf 2=8) (by omega) i_one2 (fun h=>one_int h) h hw
 simp only [List.cons.injEq,Value.slice.injEq,and_true] at e
 obtain ⟨rfl,rfl,rfl⟩:=e
 refine ⟨T,l,i,?_⟩
 rcases open_slice Tryz.underlying39 h with ⟨h1,_⟩ | ⟨a1,len,cap,m1,n1,D,Pl,h1,_,hl,_⟩
 ·simp only [List.cons.injEq,Value.slice.injEq,and_true] at h1
  omega
 ·simp only [List.cons.injEq,Value.slice.injEq,and_true] at h1
  omega
open Go.RowKit Go.ChangeShapes Go.WideShapes Go.Deep
section
variable {H:Type}{enc:TypeId×Value->H}{w:World}{base:Nat}{sp:Nat->Bool}{held:Bool}
structure NumsAt (w:World) (a:Option Addr) (m c:Nat) (T:List Int):Prop where
 inl:Inl w 1 (.slice a m c) (T.map lnI)
 ln:T.length=m
 bd:m<=100000000000000
 rg:∀ z∈T,-9223372036854775808<=z/\z<=9223372036854775807
theorem open_numsB {fuel:Nat}{cs:List Value}{x:DataW H×List MemPlace}(h:DataW.trod enc Tryz.prog w base sp held fuel 24 cs=some x) (hw:∀ q∈DataW.weights Tryz.prog 24 x.1,q<=reachBytes) :
  ∃ a m c,∃ T:List Int,cs=[.slice a m c]/\NumsAt w a m c T:=by
 obtain ⟨a,m,c,T,e,l,i,b⟩:=open_rows (α:=Num64) (fun p=>lnI p.1) Tryz.underlying24 (by kernel_rfl:Tryz.prog.cellsOf 3=1) (by kernel_rfl:Tryz.prog.bytesOf 3=8) (by omega) (fun p=>i_one2 p.1) (fun h=>one_num h) h hw
 refine ⟨a,m,c,T.map (·.1),e,⟨by rw [List.map_map];exact i,by simp [l],by unfold reachBytes at b;omega,fun z hz=>?_⟩⟩
 obtain ⟨p,_,rfl⟩:=List.mem_map.1 hz
 exact p.2
theorem open_plan {fuel:Nat}{cs:List Value}{x:DataW H×List MemPlace}(h:DataW.trod enc Tryz.prog w base sp held fuel 58 cs=some x) (hw:∀ q∈DataW.weights Tryz.prog 58 x.1,q<=reachBytes) :
  ∃ (aT aP aL:Option Addr) (mT mP mL cT cP cL:Nat) (T P L:List Int),cs=[.slice aT mT cT,.slice aP mP cP,.slice aL mL cL]/\NumsAt w aT mT cT T/\NumsAt w aP mP cP P/\NumsAt w aL mL cL L:=by
 obtain ⟨xs,n,_,rfl,hl,hx,hf⟩:=DataW.trod_struct Tryz.underlying58 h
 have hc:Tryz.prog.cellsOf 58=3:=by kernel_rfl
 have hc24:Tryz.prog.cellsOf 24=1:=by kernel_rfl
 rw [hc] at hl
 match cs,hl with
 | [c0,c1,c2],_=>
  have g0:=hf 0 { name:= "Threads",type:=24,offset:=0,embedded:=false,tag:= "",pkgPath:= "",byteOffset:=0 } rfl
  have g1:=hf 1 { name:= "Passes",type:=24,offset:=1,embedded:=false,tag:= "",pkgPath:= "",byteOffset:=24 } rfl
  have g2:=hf 2 { name:= "Leaves",type:=24,offset:=2,embedded:=false,tag:= "",pkgPath:= "",byteOffset:=48 } rfl
  simp only [hc24,List.drop_zero,List.take_succ_cons,List.take_zero,List.drop_succ_cons] at g0 g1 g2
  obtain ⟨y0,e0⟩:∃ y,xs[0]? = some y:=⟨_,List.getElem?_eq_getElem (by rw [hx];decide)⟩
  obtain ⟨y1,e1⟩:∃ y,xs[1]? = some y:=⟨_,List.getElem?_eq_getElem (by rw [hx];decide)⟩
  obtain ⟨y2,e2⟩:∃ y,xs[2]? = some y:=⟨_,List.getElem?_eq_getElem (by rw [hx];decide)⟩
  rw [e0] at g0
  rw [e1] at g1
  rw [e2] at g2
  simp only [DataW.weights,Tryz.underlying58] at hw
  have wt:∀ (i:Nat) (t:TypeId) y,([24,24,24]:List TypeId)[i]? = some t->xs[i]? = some y->∀ q∈DataW.weights Tryz.prog t y.1,q<=reachBytes:=fun i t y hi hy q hq=>
   hw q (mem_each _ _ i t y.1 q hi (by rw [List.getElem?_map,hy];rfl) hq)
  obtain ⟨aT,mT,cT,T,eT,hT⟩:=open_numsB g0 (wt 0 24 y0 rfl e0)
  obtain ⟨aP,mP,cP,P,eP,hP⟩:=open_numsB g1 (wt 1 24 y1 rfl e1)
  obtain ⟨aL,mL,cL,L,eL,hL⟩:=open_numsB g2 (wt 2 24 y2 rfl e2)
  simp at eT eP eL
  subst eT eP eL
  exact ⟨aT,aP,aL,mT,mP,mL,cT,cP,cL,T,P,L,rfl,hT,hP,hL⟩
theorem open_act {fuel:Nat}{cs:List Value}{x:DataW H×List MemPlace}(h:DataW.trod enc Tryz.prog w base sp held fuel 63 cs=some x) (hw:∀ q∈DataW.weights Tryz.prog 63 x.1,q<=reachBytes):∃ p:Ac×Sv,cs=(acA p.1 p.2).toList/\AcOk w p.1 p.2:=by
 obtain ⟨xs,n,_,rfl,hl,hx,hf⟩:=DataW.trod_struct Tryz.underlying63 h
 have hc:Tryz.prog.cellsOf 63=7:=by kernel_rfl
 have hc3:Tryz.prog.cellsOf 3=1:=by kernel_rfl
 have hc39:Tryz.prog.cellsOf 39=1:=by kernel_rfl
 rw [hc] at hl
 match cs,hl with
 | [c0,c1,c2,c3,c4,c5,c6],_=>
  have g0:=hf 0 { name:= "Kind",type:=3,offset:=0,embedded:=false,tag:= "",pkgPath:= "",byteOffset:=0 } rfl
  have g1:=hf 1 { name:= "A",type:=3,offset:=1,embedded:=false,tag:= "",pkgPath:= "",byteOffset:=8 } rfl
  have g2:=hf 2 { name:= "B",type:=3,offset:=2,embedded:=false,tag:= "",pkgPath:= "",byteOffset:=16 } rfl
  have g3:=hf 3 { name:= "C",type:=3,offset:=3,embedded:=false,tag:= "",pkgPath:= "",byteOffset:=24 } rfl
  have g4:=hf 4 { name:= "D",type:=3,offset:=4,embedded:=false,tag:= "",pkgPath:= "",byteOffset:=32 } rfl
  have g5:=hf 5 { name:= "E",type:=3,offset:=5,embedded:=false,tag:= "",pkgPath:= "",byteOffset:=40 } rfl
  have g6:=hf 6 { name:= "Words",type:=39,offset:=6,embedded:=false,tag:= "",pkgPath:= "",byteOffset:=48 } rfl
  simp only [hc3,hc39,List.drop_zero,List.take_succ_cons,List.take_zero,List.drop_succ_cons] at g0 g1 g2 g3 g4 g5 g6
  obtain ⟨y0,e0⟩:∃ y,xs[0]? = some y:=⟨_,List.getElem?_eq_getElem (by rw [hx];decide)⟩
  obtain ⟨y1,e1⟩:∃ y,xs[1]? = some y:=⟨_,List.getElem?_eq_getElem (by rw [hx];decide)⟩
  obtain ⟨y2,e2⟩:∃ y,xs[2]? = some y:=⟨_,List.getElem?_eq_getElem (by rw [hx];decide)⟩
  obtain ⟨y3,e3⟩:∃ y,xs[3]? = some y:=⟨_,List.getElem?_eq_getElem (by rw [hx];decide)⟩
  obtain ⟨y4,e4⟩:∃ y,xs[4]? = some y:=⟨_,List.getElem?_eq_getElem (by rw [hx];decide)⟩
  obtain ⟨y5,e5⟩:∃ y,xs[5]? = some y:=⟨_,List.getElem?_eq_getElem (by rw [hx];decide)⟩
  obtain ⟨y6,e6⟩:∃ y,xs[6]? = some y:=⟨_,List.getElem?_eq_getElem (by rw [hx];decide)⟩
  rw [e0] at g0
  rw [e1] at g1
  rw [e2] at g2
  rw [e3] at g3
  rw [e4] at g4
  rw [e5] at g5
  rw [e6] at g6
  obtain ⟨z0,h0,_,w0⟩:=DataW.trod_int Tryz.underlying3 g0
  obtain ⟨z1,h1,_,w1⟩:=DataW.trod_int Tryz.underlying3 g1
  obtain ⟨z2,h2,_,w2⟩:=DataW.trod_int Tryz.underlying3 g2
  obtain ⟨z3,h3,_,w3⟩:=DataW.trod_int Tryz.underlying3 g3
  obtain ⟨z4,h4,_,w4⟩:=DataW.trod_int Tryz.underlying3 g4
  obtain ⟨z5,h5,_,w5⟩:=DataW.trod_int Tryz.underlying3 g5
  simp only [DataW.weights,Tryz.underlying63] at hw
  obtain ⟨aw,nw,cw,W0,eW,_⟩:=open_rows (s:=1) (bytes:=8) lnI Tryz.underlying39 (by kernel_rfl) (by kernel_rfl) (by omega) i_one2 one_int g6 (fun q hq=>hw q (mem_each _ _ 6 39 y6.1 q rfl (by rw [List.getElem?_map,e6];rfl) hq))
  rw [eW] at g6
  obtain ⟨W,lW,iW,cW⟩:=open_ints g6 (fun q hq=>hw q (mem_each _ _ 6 39 y6.1 q rfl (by rw [List.getElem?_map,e6];rfl) hq))
  simp at h0 h1 h2 h3 h4 h5 eW
  subst h0 h1 h2 h3 h4 h5 eW
  exact ⟨(⟨z0,z1,z2,z3,z4,z5,W⟩,⟨aw,nw,cw⟩),rfl,⟨wf64 w0,wf64 w1,wf64 w2,wf64 w3,wf64 w4,wf64 w5,iW,lW,cW⟩⟩
theorem open_acts {fuel:Nat}{a:Option Addr}{m c:Nat}{x:DataW H×List MemPlace}(h:DataW.trod enc Tryz.prog w base sp held fuel 59 [.slice a m c]=some x) (hw:∀ q∈DataW.weights Tryz.prog 59 x.1,q<=reachBytes) :
  ∃ T:List (Ac×Sv),T.length=m/\Inl w 7 (.slice a m c) (T.map (fun p=>(acA p.1 p.2).toList))/\m<=100000000000000/\∀ p∈T,AcOk w p.1 p.2:=by
 have hc:Tryz.prog.cellsOf 63=7:=by kernel_rfl
 have hby:Tryz.prog.bytesOf 63=72:=by kernel_rfl
 rcases open_slice Tryz.underlying59 h with ⟨h1,rfl⟩ | ⟨a1,len,cap,m1,n1,D,Pl,h1,_,hl,hmx,hm,rfl,hx⟩
 ·simp only [List.cons.injEq,Value.slice.injEq,and_true] at h1
  obtain ⟨rfl,rfl,rfl⟩:=h1
  exact ⟨[],rfl,⟨by simp,by simp,none,0,rfl,by simp,.inl rfl⟩,by omega,by simp⟩
 ·simp only [List.cons.injEq,Value.slice.injEq,and_true] at h1
  obtain ⟨rfl,rfl,rfl⟩:=h1
  have hlm:m<=m1:=by rw [hm];split <;> omega
  simp only [DataW.weights,Tryz.underlying59] at hw
  have hG:∀ i,i < m->∃ p:Ac×Sv,w.cells? base (a1.add (i*7)) 7=some (acA p.1 p.2).toList/\AcOk w p.1 p.2:=fun i hi=>by
   obtain ⟨cs',h1,h2⟩:=hx i (by omega)
   obtain ⟨q,rfl,ok⟩:=open_act h2 (fun q hq=>hw q (List.mem_cons_of_mem _ (List.mem_append_left _ (mem_all _ _ q (List.mem_map.2 ⟨i,List.mem_range.2 hi,rfl⟩) hq))))
   rw [hc] at h1
   exact ⟨q,h1,ok⟩
  let G:Nat->Ac×Sv:=fun i=>@dite _ (i < m) (Classical.propDecidable _) (fun h=>Classical.choose (hG i h)) (fun _=>(⟨0,0,0,0,0,0,[]⟩,⟨none,0,0⟩))
  have hGs:∀ i,i < m->w.cells? base (a1.add (i*7)) 7=some (acA (G i).1 (G i).2).toList/\AcOk w (G i).1 (G i).2:=fun i hi=>by
   have:G i=Classical.choose (hG i hi):=by simp only [G];rw [dif_pos hi]
   rw [this]
   exact Classical.choose_spec (hG i hi)
  refine ⟨(List.range m).map G,by simp,?_,?_,fun p hp=>?_⟩
  ·rw [List.map_map]
   exact inl_of_cells ((fun p:Ac×Sv=>(acA p.1 p.2).toList) ∘ G) (by omega) (by omega) (fun i hi=>(hGs i hi).1) (fun i _ u hu=>by
    simp at hu
    rcases hu with rfl | rfl | rfl | rfl | rfl | rfl | rfl <;> rfl)
  ·have:=hw ((m+(m1-m))*Tryz.prog.bytesOf 63) (by simp)
   rw [hby] at this
   unfold reachBytes at this
   have h2:m*72<=(m+(m1-m))*72:=Nat.mul_le_mul_right _ (by omega)
   omega
  ·obtain ⟨i,hi,rfl⟩:=List.mem_map.1 hp
   exact (hGs i (List.mem_range.1 hi)).2
end
end Go.Proofs.YteejjgbeknnmeaaGreatDoor
