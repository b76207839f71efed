import Derived.Test.YteejjgbeknnmeaaGreatDoorJ03
set_option maxRecDepth 100000
namespace Go.Proofs.YteejjgbeknnmeaaGreatDoor
open Go.RowKit Go.ChangeShapes Go.WideShapes Go.Deep
def Num64:Type:={ z:Int // -9223372036854775808<=z/\z<=9223372036854775807 }
instance:Inhabited Num64:=⟨⟨0,by omega⟩⟩
theorem one_num {H:Type}{enc:TypeId×Value->H}{w:World}{base:Nat}{sp:Nat->Bool}{held:Bool}{fuel:Nat}{cs:List Value}{x:DataW H×List MemPlace}(h:DataW.trod enc Tryz.prog w base sp held fuel 3 cs=some x):∃ p:Num64,cs=lnI p.1:=by
 obtain ⟨z,hz,_,hw⟩:=DataW.trod_int Tryz.underlying3 h
 exact ⟨⟨z,wf64 hw⟩,hz⟩
theorem open_nums {H:Type}{enc:TypeId×Value->H}{w:World}{base:Nat}{sp:Nat->Bool}{held:Bool}{fuel:Nat}{a:Option Addr}{m c:Nat}{x:DataW H×List MemPlace}(h:DataW.trod enc Tryz.prog w base sp held fuel 24 [.slice a m c]=some x) (hw:∀ q∈DataW.weights Tryz.prog 24 x.1,q<=reachBytes) :
  ∃ T:List Int,T.length=m/\Inl w 1 (.slice a m c) (T.map lnI)/\∀ z∈T,-9223372036854775808<=z/\z<=9223372036854775807:=by
 obtain ⟨a',m',c',T,e,l,i,_⟩:=open_rows (α:=Num64) (fun p=>lnI p.1) Tryz.underlying24 (by kernel_rfl:Tryz.prog.cellsOf 3=1) (by kernel_rfl:Tryz.prog.bytesOf 3=8) (by omega) (fun p=>i_one2 p.1) (fun h=>one_num h) h hw
 simp only [List.cons.injEq,Value.slice.injEq,and_true] at e
 obtain ⟨rfl,rfl,rfl⟩:=e
 refine ⟨T.map (·.1),by simp [l],by rw [List.map_map];exact i,fun z hz=>?_⟩
 obtain ⟨p,_,rfl⟩:=List.mem_map.1 hz
 exact p.2
end Go.Proofs.YteejjgbeknnmeaaGreatDoor
