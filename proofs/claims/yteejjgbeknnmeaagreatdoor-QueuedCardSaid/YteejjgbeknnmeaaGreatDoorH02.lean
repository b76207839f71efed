import Derived.Test.YteejjgbeknnmeaaGreatDoorH01
import Derived.BigRegion
import Derived.Deep.DeepCutAuto
namespace Go.Proofs.YteejjgbeknnmeaaGreatDoor
open Go.RowKit
theorem Tryz.infoN34:(Tryz.prog.info? 34).map (fun i=>(i.zero,i.size,i.bytes))=some (some (.agg #[.int .i64 0,.int .i64 0]),2,16):=by kernel_rfl
theorem madeCells_rep (z:Array Value) (n:Nat) (hz:0 < z.size):(madeCells z (n*z.size)).toList=rep n z.toList:=by
 apply List.ext_getElem?
 intro j
 by_cases hj:j < n*z.size
 ·have hq:j / z.size < n:=Nat.div_lt_of_lt_mul (by rw [Nat.mul_comm];exact hj)
  have hm:j % z.size < z.size:=Nat.mod_lt _ hz
  have e:j=j / z.size*z.toList.length+j % z.size:=by rw [Array.length_toList,Nat.mul_comm];exact (Nat.div_add_mod j z.size).symm
  have h2:=rep_get n z.toList (j / z.size) (j % z.size) hq (by simpa using hm)
  rw [<- e] at h2
  rw [h2]
  simp [madeCells,hj,hm,getElem!_pos]
 ·rw [List.getElem?_eq_none (by simp [size_madeCells];omega),List.getElem?_eq_none (by rw [length_rep,Array.length_toList];omega)]
theorem made_sl {w:World}{g:Nat}{z:Array Value}{n size:Nat}{e:TypeId}(hz:z.size=size) (h0:0 < size) (hn:n<=maxLen) (h:w.heap[g]? = some (.cells (madeCells z (n*size)) e (0,0))) :
  Sl w e size (.slice (some ⟨g,0,none⟩) n n) (List.replicate n z.toList):=by
 subst hz
 refine ⟨?_,fun r hr=>by rw [(List.mem_replicate.1 hr).2];simp⟩
 rw [List.length_replicate]
 have e1:(List.replicate n z.toList).flatten=(madeCells z (n*z.size)).toList:=by rw [madeCells_rep z n h0];rfl
 rw [e1]
 exact ⟨by simp [size_madeCells],.inr ⟨g,n,_,rfl,Nat.zero_le _,h,Nat.le_refl _,hn,size_madeCells _ _,List.take_of_length_le (by simp [size_madeCells])⟩⟩
def tRow (p:Int×Int):List Value:=[.int .i64 p.1,.int .i64 p.2]
def qRow (p:Int×Int×Int×Int):List Value:=[.int .i64 p.1,.int .i64 p.2.1,.int .i64 p.2.2.1,.int .i64 p.2.2.2]
theorem heap_push (w:World) (o:Obj):(w.alloc o).heap=w.heap.push o:=rfl
end Go.Proofs.YteejjgbeknnmeaaGreatDoor
