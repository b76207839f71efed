import Derived.Test.YteejjgbeknnmeaaGreatDoorH11
import Derived.Deep.Slices
import Derived.DataReads
import GoSem.ClaimJoined
import Derived.ChangeSame
import Derived.ChangeVars
import Derived.JoinedOf
import Derived.RowKit
import Derived.RowKitTokens
import Derived.LaidLaws
import Derived.LaidHandle
import Derived.Stop.Joined
import Derived.Carry
import Derived.LaidMore
set_option maxRecDepth 100000
namespace Go.Proofs.YteejjgbeknnmeaaGreatDoor
open Go.RowKit Go.ChangeShapes Go.WideShapes Go.Deep
theorem inl_of_cells {w:World}{base:Nat}{a:Addr}{len cap s:Nat}(R:Nat->List Value) (hs:0 < s) (hl:len<=maxLen) (h:∀ i,i < len->w.cells? base (a.add (i*s)) s=some (R i)) (h1:∀ i,i < len->∀ u∈R i,u.oneCell'=true) :
  Inl w s (.slice (some a) len cap) ((List.range len).map R):=by
 have hR:∀ i,i < len->(R i).length=s:=fun i hi=>(World.cells?_some (h i hi)).2.1
 have hlen:∀ r∈(List.range len).map R,r.length=s:=by
  intro r hr
  obtain ⟨i,hi,rfl⟩:=List.mem_map.1 hr
  exact hR i (List.mem_range.1 hi)
 refine ⟨hlen,?_,some a,cap,by simp,by simpa using hl,?_⟩
 ·intro r hr u hu
  obtain ⟨i,hi,rfl⟩:=List.mem_map.1 hr
  exact h1 i (List.mem_range.1 hi) u hu
 ·by_cases h0:len=0
  ·left;subst h0;rfl
  ·right
   have c0:=(World.cells?_some (h 0 (by omega))).2.2 0 hs
   have hsp:a.spot=none:=by
    have hx:(R 0)[0]? = some ((R 0)[0]'(by rw [hR 0 (by omega)];exact hs)):=List.getElem?_eq_getElem _
    rw [hx] at c0
    have:=World.cell?_spot c0
    simpa [Addr.add] using this
   obtain ⟨b,off,sp⟩:=a
   simp only at hsp
   subst hsp
   refine ⟨b,off,rfl,fun j v hv=>?_⟩
   have hj:=(List.getElem?_eq_some_iff.1 hv).1
   rw [flatten_len _ hlen] at hj
   simp only [List.length_map,List.length_range] at hj
   have hq:j / s < len:=Nat.div_lt_of_lt_mul (by rw [Nat.mul_comm];exact hj)
   have hm:j % s < s:=Nat.mod_lt _ hs
   have e:j=j / s*s+j % s:=by rw [Nat.mul_comm];exact (Nat.div_add_mod j s).symm
   have hc:=(World.cells?_some (h (j / s) hq)).2.2 (j % s) hm
   rw [add_add,<- e,Addr.add_mid] at hc
   rw [hc]
   have hg:=flatten_get ((List.range len).map R) (j / s) (j % s) hlen (by simpa using hq) hm
   rw [<- e] at hg
   rw [hg] at hv
   simpa using hv
section
variable {H:Type}{enc:TypeId×Value->H}{w:World}{base:Nat}{sp:Nat->Bool}{held:Bool}
theorem wf64 {z:Int}(h:(Lit.int .i64 z).wf=true):-9223372036854775808<=z/\z<=9223372036854775807:=by
 simp [Lit.wf,IntKind.min,IntKind.max,IntKind.signed,IntKind.bits] at h
 omega
theorem open_rows {α:Type} [Inhabited α] {t e:TypeId}{s bytes:Nat}(f:α->List Value) (ht:Tryz.prog.underlying t=some (.slice e)) (hc:Tryz.prog.cellsOf e=s) (hby:Tryz.prog.bytesOf e=bytes) (hs:0 < s) (hf:∀ (x:α),∀ u∈f x,u.oneCell'=true)
  (hop:∀ {fuel:Nat}{cs:List Value}{x:DataW H×List MemPlace},DataW.trod enc Tryz.prog w base sp held fuel e cs=some x->∃ p:α,cs=f p)
  {fuel:Nat}{cs:List Value}{x:DataW H×List MemPlace}(h:DataW.trod enc Tryz.prog w base sp held fuel t cs=some x) (hw:∀ q∈DataW.weights Tryz.prog t x.1,q<=reachBytes) :
  ∃ a m c,∃ T:List α,cs=[.slice a m c]/\T.length=m/\Inl w s (.slice a m c) (T.map f)/\m*bytes<=reachBytes:=by
 rcases open_slice ht h with ⟨rfl,rfl⟩ | ⟨a,len,cap,m,n,D,Pl,rfl,_,hl,hmx,hm,rfl,hx⟩
 ·exact ⟨none,0,0,[],rfl,rfl,⟨by simp,by simp,none,0,rfl,by simp,.inl rfl⟩,by simp⟩
 ·have hlm:len<=m:=by rw [hm];split <;> omega
  obtain ⟨F,hF⟩:=choose_lt (α:=α) (n:=len) (p:=fun i q=>w.cells? base (a.add (i*s)) s=some (f q)) (fun i hi=>by
   obtain ⟨cs',h1,h2⟩:=hx i (by omega)
   obtain ⟨q,rfl⟩:=hop h2
   rw [hc] at h1
   exact ⟨q,h1⟩)
  refine ⟨some a,len,cap,(List.range len).map F,rfl,by simp,?_,?_⟩
  ·rw [List.map_map]
   exact inl_of_cells (f ∘ F) hs (by omega) hF (fun i _=>hf (F i))
  ·have:=hw ((len+(m-len))*Tryz.prog.bytesOf e) (by
    simp only [DataW.weights,ht,List.length_map,List.length_range]
    exact List.mem_cons_self)
   rw [hby] at this
   refine Nat.le_trans (Nat.mul_le_mul_right _ (by omega)) this
theorem mem_each {P:Program}:∀ (ts:List TypeId) (ds:List (DataW H)) (i:Nat) (t:TypeId) (d:DataW H) (q:Nat),ts[i]? = some t->ds[i]? = some d->q∈DataW.weights P t d->q∈DataW.weightsEach P ts ds
 | [],_,i,t,d,q,h,_,_=>by simp at h
 | _ :: _,[],i,t,d,q,_,h,_=>by simp at h
 | t0 :: ts,d0 :: ds,0,t,d,q,h1,h2,h3=>by
  simp at h1 h2
  subst h1 h2
  simp only [DataW.weightsEach]
  exact List.mem_append_left _ h3
 | t0 :: ts,d0 :: ds,i+1,t,d,q,h1,h2,h3=>by
  simp at h1 h2
  simp only [DataW.weightsEach]
  exact List.mem_append_right _ (mem_each ts ds i t d q h1 h2 h3)
theorem one_int {fuel:Nat}{cs:List Value}{x:DataW H×List MemPlace}(h:DataW.trod enc Tryz.prog w base sp held fuel 2 cs=some x):∃ p:Int,cs=lnI p:=by
 obtain ⟨z,hz,_⟩:=DataW.trod_int Tryz.underlying2 h
 exact ⟨z,hz⟩
theorem i_one2 (p:Int):∀ u∈lnI p,u.oneCell'=true:=by
 intro u hu;simp [lnI] at hu;subst hu;rfl
end
theorem Tryz.own:ownKnob Tryz.prog.godebug=none:=by kernel_rfl
theorem Tryz.laidOut:laidOutB Tryz.prog=true:=by kernel_rfl
theorem Tryz.et:Tryz.prog.globalNamed "errors.errorType"=some 0:=by kernel_rfl
theorem Tryz.rt:(Tryz.prog.cutTypes.find? (·.1 == "internal/reflectlite.rtype")).map (·.2)=some 257:=by kernel_rfl
theorem Tryz.oneRow:((List.range 326).filter fun t=>Tryz.prog.rowNamed t [101,114,114,111,114])=[114]:=by kernel_rfl
theorem Tryz.sizeT:Tryz.prog.types.size=326:=by kernel_rfl
theorem handle_of_laid {W:World}(h:laidMetH Tryz.prog Rows.bootsRow.laid W):Gl W:=by
 have h':laidMet Tryz.prog [("math/bits.deBruijn32tab",Rows.laid_math_bits_deBruijn32tab),("math/bits.deBruijn64tab",Rows.laid_math_bits_deBruijn64tab),("internal/strconv.uint64pow10",Rows.laid_internal_strconv_uint64pow10)] W/\handlesMet Tryz.prog [("errors.errorType",Rows.laid_errors_errorType)] W:=h
 obtain ⟨name,u,ty,e1,e2,e3,e4,e5⟩:=h'.2 _ (List.mem_singleton.2 rfl)
 have en:name=[101,114,114,111,114]:=(Option.some.inj e1).symm
 subst en
 obtain rfl:=Option.some.inj (Tryz.rt.symm.trans e2)
 have hm:ty∈(List.range 326).filter fun t=>Tryz.prog.rowNamed t [101,114,114,111,114]:=List.mem_filter.2 ⟨List.mem_range.2 (by rw [<- Tryz.sizeT];exact e3),e4⟩
 rw [Tryz.oneRow] at hm
 obtain rfl:=List.mem_singleton.1 hm
 have hh:typeHandle Tryz.prog 114=.pointer (some ⟨4,114,none⟩):=by kernel_rfl
 rw [hh] at e5
 unfold Gl
 simpa using World.var?_cell Tryz.et e5 0
theorem laid_met (os:Os) (args:Array Value):laidMetH Tryz.prog Rows.bootsRow.laid ((World.doorLaid Tryz.prog 200 os).forCall (fun _ _=>0) ⟨#[],args,[]⟩).memory:=
 laidMetH_of_parts (laidMet_of_run' 8 (by kernel_rfl) (by kernel_rfl)) (by kernel_rfl)
open Go.RowKit Go.ChangeShapes Go.WideShapes Go.Deep
theorem open_ints {H:Type}{enc:TypeId×Value->H}{w:World}{base:Nat}{sp:Nat->Bool}{held:Bool}{fuel:Nat}{a:Option Addr}{m c:Nat}{x:DataW H×List MemPlace}(h:DataW.trod enc Tryz.prog w base sp held fuel 39 [.slice a m c]=some x) (hw:∀ q∈DataW.weights Tryz.prog 39 x.1,q<=reachBytes) :
  ∃ T:List Int,T.length=m/\Inl w 1 (.slice a m c) (T.map lnI)/\m<=c:=by
 obtain ⟨a',m',c',T,e,l,i,_⟩:=open_rows lnI Tryz.underlying39 (by kernel_rfl:Tryz.prog.cellsOf 2=1) (by kernel_rfl:Tryz.prog.bytesOf 2=8) (by omega) i_one2 (fun h=>one_int h) h hw
 simp only [List.cons.injEq,Value.slice.injEq,and_true] at e
 obtain ⟨rfl,rfl,rfl⟩:=e
 refine ⟨T,l,i,?_⟩
 rcases open_slice Tryz.underlying39 h with ⟨h1,_⟩ | ⟨a1,len,cap,m1,n1,D,Pl,h1,_,hl,_⟩
 ·simp only [List.cons.injEq,Value.slice.injEq,and_true] at h1
  omega
 ·simp only [List.cons.injEq,Value.slice.injEq,and_true] at h1
  omega
open Go.RowKit Go.ChangeShapes Go.WideShapes Go.Deep
def Num64:Type:={ z:Int // -9223372036854775808<=z/\z<=9223372036854775807 }
instance:Inhabited Num64:=⟨⟨0,by omega⟩⟩
theorem one_num {H:Type}{enc:TypeId×Value->H}{w:World}{base:Nat}{sp:Nat->Bool}{held:Bool}{fuel:Nat}{cs:List Value}{x:DataW H×List MemPlace}(h:DataW.trod enc Tryz.prog w base sp held fuel 3 cs=some x):∃ p:Num64,cs=lnI p.1:=by
 obtain ⟨z,hz,_,hw⟩:=DataW.trod_int Tryz.underlying3 h
 exact ⟨⟨z,wf64 hw⟩,hz⟩
theorem open_nums {H:Type}{enc:TypeId×Value->H}{w:World}{base:Nat}{sp:Nat->Bool}{held:Bool}{fuel:Nat}{a:Option Addr}{m c:Nat}{x:DataW H×List MemPlace}(h:DataW.trod enc Tryz.prog w base sp held fuel 24 [.slice a m c]=some x) (hw:∀ q∈DataW.weights Tryz.prog 24 x.1,q<=reachBytes) :
  ∃ T:List Int,T.length=m/\Inl w 1 (.slice a m c) (T.map lnI)/\∀ z∈T,-9223372036854775808<=z/\z<=9223372036854775807:=by
 obtain ⟨a',m',c',T,e,l,i,_⟩:=open_rows (α:=Num64) (fun p=>lnI p.1) Tryz.underlying24 (by kernel_rfl:Tryz.prog.cellsOf 3=1) (by kernel_rfl:Tryz.prog.bytesOf 3=8) (by omega) (fun p=>i_one2 p.1) (fun h=>one_num h) h hw
 simp only [List.cons.injEq,Value.slice.injEq,and_true] at e
 obtain ⟨rfl,rfl,rfl⟩:=e
 refine ⟨T.map (·.1),by simp [l],by rw [List.map_map];exact i,fun z hz=>?_⟩
 obtain ⟨p,_,rfl⟩:=List.mem_map.1 hz
 exact p.2
end Go.Proofs.YteejjgbeknnmeaaGreatDoor
