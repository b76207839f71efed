import Derived.Test.YteejjgbeknnmeaaGreatDoorRows
import Derived.Test.YteejjgbeknnmeaaGreatDoorJ01
import Derived.LaidEql
import Derived.Stop.Asserts
import Derived.RowKitTokens
import Derived.Test.YteejjgbeknnmeaaGreatDoorJ02
import Derived.Deep.QuietTactic
import Derived.BigQuiet
import Derived.Deep.MidRow
import Derived.Deep.Slices
import Derived.DataReads
import GoSem.ClaimJoined
import Derived.ChangeSame
import Derived.ChangeVars
import Derived.JoinedOf
import Derived.RowKit
import Derived.LaidLaws
import Derived.LaidHandle
import Derived.Stop.Joined
import Derived.Carry
import Derived.LaidMore
set_option maxRecDepth 100000
set_option maxHeartbeats 20000000
namespace Go.Proofs.YteejjgbeknnmeaaGreatDoor
open Go.RowKit Go.Extern.Stop Go.Stop Go.Extern
theorem Tryz.valueOf157 (t:Addr) (w:World):(ReflectliteValue.unpack (.iface 162 (.pointer (some t)))).run Tryz.prog w
  = .ok (.agg #[.pointer (some ⟨4,162,none⟩),.pointer (some ⟨w.heap.size,0,none⟩),.int .u64 150]) (w.alloc (.cells #[.pointer (some t)] 162)):=by kernel_rfl
theorem Tryz.type157 (a:Addr) (w:World):(ReflectliteValue.methodAny (ReflectliteValue.valueError "reflectlite.Value.Type" 0) (fun t _ _ _=>ReflectliteType.toType t) #[.agg #[.pointer (some ⟨4,162,none⟩),.pointer (some a),.int .u64 150]]).run Tryz.prog w
  = .ok (.iface 257 (.agg #[.pointer (some ⟨4,162,none⟩)])) w:=by kernel_rfl
theorem Tryz.methodKind (h:Value) (w:World):(Go.method 426 257 (.agg #[h]) "Kind").run Tryz.prog w=.ok (204,h) w:=by kernel_rfl
theorem Tryz.kind157 (w:World):((ReflectliteType.abiMethod fun t=>(fun a:Nat=>Value.int IntKind.u8 (a:Int)) <$> Rtype.kind t) #[.pointer (some ⟨4,162,none⟩)]).run Tryz.prog w=.ok (.int .u8 22) w:=by kernel_rfl
theorem Tryz.kind155 (w:World):((ReflectliteType.abiMethod fun t=>(fun a:Nat=>Value.int IntKind.u8 (a:Int)) <$> Rtype.kind t) #[.pointer (some ⟨4,160,none⟩)]).run Tryz.prog w=.ok (.int .u8 25) w:=by kernel_rfl
theorem rlm (z:Sem Value) (f:TypeId->Addr->Nat->Nat->Sem Value) (v:Value) :
  ReflectliteValue.method z f #[v]=(do match <- ReflectliteValue.parts v with | none=>z | some (t,a,fl)=>f t a fl (fl % 32)):=rfl
theorem Tryz.parts157 (a:Addr) (w:World):(ReflectliteValue.parts (.agg #[.pointer (some ⟨4,162,none⟩),.pointer (some a),.int .u64 150])).run Tryz.prog w=.ok (some (162,a,150)) w:=by kernel_rfl
theorem Tryz.isNil157 (a p:Addr) (W:World) (ha:W.cell? a=some (.pointer (some p))) :
  (ReflectliteValue.method (ReflectliteValue.valueError "reflectlite.Value.IsNil" 0) ReflectliteValue.isNil #[.agg #[.pointer (some ⟨4,162,none⟩),.pointer (some a),.int .u64 150]]).run Tryz.prog W=.ok (.bool false) W:=by
 rw [rlm]
 simp only [Sem.run_bind,Tryz.parts157,Result.andThen]
 simp [ReflectliteValue.isNil,loadVar,isAgg,underlying,Tryz.underlying162,ha,Result.andThen]
theorem Tryz.methodElem (h:Value) (w:World):(Go.method 426 257 (.agg #[h]) "Elem").run Tryz.prog w=.ok (216,.agg #[h]) w:=by kernel_rfl
theorem Tryz.methodImplements (h:Value) (w:World):(Go.method 426 257 (.agg #[h]) "Implements").run Tryz.prog w=.ok (217,.agg #[h]) w:=by kernel_rfl
theorem Tryz.methodAssignableTo (h:Value) (w:World):(Go.method 426 257 (.agg #[h]) "AssignableTo").run Tryz.prog w=.ok (214,.agg #[h]) w:=by kernel_rfl
theorem Tryz.methodUnwrap (v:Value) (w:World):(Go.method 426 166 v "Unwrap").run Tryz.prog w=.ok (209,v) w:=by kernel_rfl
theorem Tryz.elem157 (w:World):(ReflectliteType.method ReflectliteType.elem #[.agg #[.pointer (some ⟨4,162,none⟩)]]).run Tryz.prog w=.ok (.iface 257 (.agg #[.pointer (some ⟨4,160,none⟩)])) w:=by kernel_rfl
theorem Tryz.implements155 (w:World):(ReflectliteType.relation "Implements" ReflectliteType.implements_ #[.agg #[.pointer (some ⟨4,160,none⟩)],.iface 257 (.agg #[.pointer (some ⟨4,114,none⟩)])]).run Tryz.prog w=.ok (.bool true) w:=by kernel_rfl
theorem Tryz.typeOf155 (v:Value) (w:World):(ReflectliteType.typeOf #[.iface 160 v]).run Tryz.prog w=.ok (.iface 257 (.agg #[.pointer (some ⟨4,160,none⟩)])) w:=by kernel_rfl
theorem Tryz.typeOf153 (v:Value) (w:World):(ReflectliteType.typeOf #[.iface 166 v]).run Tryz.prog w=.ok (.iface 257 (.agg #[.pointer (some ⟨4,166,none⟩)])) w:=by kernel_rfl
theorem Tryz.assignable155 (w:World):(ReflectliteType.relation "AssignableTo" ReflectliteType.assignableTo #[.agg #[.pointer (some ⟨4,160,none⟩)],.iface 257 (.agg #[.pointer (some ⟨4,160,none⟩)])]).run Tryz.prog w=.ok (.bool true) w:=by kernel_rfl
theorem Tryz.assignable153 (w:World):(ReflectliteType.relation "AssignableTo" ReflectliteType.assignableTo #[.agg #[.pointer (some ⟨4,166,none⟩)],.iface 257 (.agg #[.pointer (some ⟨4,160,none⟩)])]).run Tryz.prog w=.ok (.bool false) w:=by kernel_rfl
theorem Tryz.valueOf155 (c:Int) (w:World):(ReflectliteValue.unpack (.iface 160 (.agg #[.int .i64 c]))).run Tryz.prog w
  = .ok (.agg #[.pointer (some ⟨4,160,none⟩),.pointer (some ⟨w.heap.size,0,none⟩),.int .u64 153]) (w.alloc (.cells #[.int .i64 c] 160)):=by kernel_rfl
theorem Tryz.elemOf157 (w:World):(Rtype.elem? 162).run Tryz.prog w=.ok (some 160) w:=by kernel_rfl
theorem Tryz.mk155 (p:Addr) (w:World):(ReflectliteValue.mk 160 p ReflectliteValue.flagAddr).run Tryz.prog w=.ok (.agg #[.pointer (some ⟨4,160,none⟩),.pointer (some p),.int .u64 409]) w:=by kernel_rfl
theorem Tryz.elemV157 (a p:Addr) (W:World) (ha:W.cell? a=some (.pointer (some p))) :
  (ReflectliteValue.method (ReflectliteValue.valueError "reflectlite.Value.Elem" 0) ReflectliteValue.elem #[.agg #[.pointer (some ⟨4,162,none⟩),.pointer (some a),.int .u64 150]]).run Tryz.prog W
   = .ok (.agg #[.pointer (some ⟨4,160,none⟩),.pointer (some p),.int .u64 409]) W:=by
 rw [rlm]
 simp only [Sem.run_bind,Tryz.parts157,Result.andThen]
 simp [ReflectliteValue.elem,loadVar,isAgg,underlying,Tryz.underlying162,ha,Result.andThen,Tryz.elemOf157,Tryz.mk155]
theorem rls (v x:Value):ReflectliteValue.set #[v,x]=(do
  let (some (dst,a,fl),some (src,b,_)):=(<- ReflectliteValue.parts v,<- ReflectliteValue.parts x)
   | unsupported (.noEntry "extern/(internal/reflectlite.Value).Set.zeroValue")
  if fl / ReflectliteValue.flagAddr % 2 == 0 then unsupported (.noEntry "extern/(internal/reflectlite.Value).Set.unaddressable")
  let val <- loadVar src b
  if <- Rtype.directlyAssignable dst src then storeVar dst a val
  else if <- Rtype.implements dst src then
   if (<- Rtype.kind src) == 20 then
    match val with
    | .nilIface=>unsupported (.noEntry "extern/reflectlite: a nil value of one interface type handed on as a value of another")
    | _=>storeVar dst a val
   else storeVar dst a (.iface src val)
  else panicString ("reflectlite.Set: value of type " ++ (<- Rtype.spelt src) ++ " is not assignable to type " ++ (<- Rtype.spelt dst))
  pure (.tuple #[])):=rfl
theorem Tryz.parts155a (a:Addr) (w:World):(ReflectliteValue.parts (.agg #[.pointer (some ⟨4,160,none⟩),.pointer (some a),.int .u64 409])).run Tryz.prog w=.ok (some (160,a,409)) w:=by kernel_rfl
theorem Tryz.parts155 (a:Addr) (w:World):(ReflectliteValue.parts (.agg #[.pointer (some ⟨4,160,none⟩),.pointer (some a),.int .u64 153])).run Tryz.prog w=.ok (some (160,a,153)) w:=by kernel_rfl
theorem Tryz.direct155 (w:World):(Rtype.directlyAssignable 160 160).run Tryz.prog w=.ok true w:=by kernel_rfl
theorem Tryz.set155 (ta b:Addr) (c:Int) (old:Value) (W:World) (hb:W.cell? b=some (.int .i64 c)) (ht:W.cell? ta=some old) (hf:W.frozen? ta=false) :
  (ReflectliteValue.set #[.agg #[.pointer (some ⟨4,160,none⟩),.pointer (some ta),.int .u64 409],.agg #[.pointer (some ⟨4,160,none⟩),.pointer (some b),.int .u64 153]]).run Tryz.prog W
   = .ok (.tuple #[]) (W.setCell ta (.int .i64 c)):=by
 rw [rls]
 simp only [Sem.run_bind,Tryz.parts155a,Tryz.parts155,Result.andThen]
 simp [ReflectliteValue.flagAddr,loadVar,isAgg,underlying,Tryz.underlying160,hb,Result.andThen,Tryz.direct155,loadCells,loadCellsFrom,storeVar,Value.cells,storeCells,Addr.add]
 rw [run_store Tryz.prog W ta _ _ (by rfl)]
 simp [ht,hf]
open Go.RowKit Go.Extern.Stop Go.Stop Go.Extern
def Gl (w:World):Prop:=w.cell? ⟨0,0,none⟩=some (.iface 257 (.agg #[.pointer (some ⟨4,114,none⟩)]))
theorem Gl.lt {w:World}(h:Gl w):0 < w.heap.size:=block_lt_of_cell (a:=⟨0,0,none⟩) h
theorem Gl.alloc {w:World}(h:Gl w) (o:Obj):Gl (w.alloc o):=by
 unfold Gl;rw [World.cell?_alloc_lt _ _ ⟨0,0,none⟩ h.lt];exact h
theorem Gl.fr {S:Nat->Prop}{w w':World}(h:Gl w) (f:Fr S w w') (hs:¬ S 0):Gl w':=(f.cell (p:=⟨0,0,none⟩) h.lt hs).trans h
theorem Gl.below {w w':World}(h:Gl w) (f:Below w.heap.size w w'):Gl w':=h.fr (Fr.of_below f (fun _=>False)) (fun h=>h)
theorem Tryz.lacksAs153 (v:Value) (xT:TypeId) (w:World):(Instr.typeAssert (.iface 166 v) xT 262 true).run Tryz.prog w=.ok (.tuple #[.nilIface,.bool false]) w:=run_typeAssert_lacksB Tryz.underlying262 (by kernel_rfl) (by kernel_rfl) v xT w
theorem Tryz.hasUnwrap153 (v:Value) (xT:TypeId) (w:World):(Instr.typeAssert (.iface 166 v) xT 265 true).run Tryz.prog w=.ok (.tuple #[.iface 166 v,.bool true]) w:=run_typeAssert_hasB Tryz.underlying265 (by kernel_rfl) v xT w
theorem number_nil (w:World):Calls Tryz.prog 45 #[.nilIface] w fun e w'=>e=.returned (.int .i64 0)/\Below w.heap.size w w':=by
 go_enter Tryz.func45,Tryz.ntmps45
 go_wp2
 go_ret
 refine ⟨rfl,?_⟩
 repeat (first | exact Below.refl _ _ | refine Below.drew ?_ | refine Below.setCell ?_ (by simp <;> omega) _ | refine Below.alloc ?_ (by simp <;> omega) _)
theorem number_met1 (s:ByteArray) (c:Int) (w:World) (hg:Gl w):Calls Tryz.prog 45 #[.iface 166 (.agg #[.string s,.iface 160 (.agg #[.int .i64 c])])] w fun e w'=>e=.returned (.int .i64 c)/\Below w.heap.size w w':=by
 have h102:=@run_callFunc_extern Tryz.prog 126 _ (fun args=>ReflectliteValue.unpack (args.getD 0 (.tuple #[]))) Tryz.func126 (by kernel_rfl) (by kernel_rfl) (by kernel_rfl) (by kernel_rfl)
 have h103:=@run_callFunc_extern Tryz.prog 127 _ (ReflectliteValue.methodAny (ReflectliteValue.valueError "reflectlite.Value.Type" 0) (fun t _ _ _=>ReflectliteType.toType t)) Tryz.func127 (by kernel_rfl) (by kernel_rfl) (by kernel_rfl) (by kernel_rfl)
 have h104:=@run_callFunc_extern Tryz.prog 128 _ (ReflectliteValue.method (ReflectliteValue.valueError "reflectlite.Value.IsNil" 0) ReflectliteValue.isNil) Tryz.func128 (by kernel_rfl) (by kernel_rfl) (by kernel_rfl) (by kernel_rfl)
 have h152:=@run_callFunc_extern Tryz.prog 204 _ (ReflectliteType.abiMethod fun t=>do pure (.int .u8 (<- Rtype.kind t))) Tryz.func204 (by kernel_rfl) (by kernel_rfl) (by kernel_rfl) (by kernel_rfl)
 have h164:=@run_callFunc_extern Tryz.prog 216 _ (ReflectliteType.method ReflectliteType.elem) Tryz.func216 (by kernel_rfl) (by kernel_rfl) (by kernel_rfl) (by kernel_rfl)
 have h165:=@run_callFunc_extern Tryz.prog 217 _ (ReflectliteType.relation "Implements" ReflectliteType.implements_) Tryz.func217 (by kernel_rfl) (by kernel_rfl) (by kernel_rfl) (by kernel_rfl)
 have h118:=@run_callFunc_extern Tryz.prog 162 _ ReflectliteType.typeOf Tryz.func162 (by kernel_rfl) (by kernel_rfl) (by kernel_rfl) (by kernel_rfl)
 have h162:=@run_callFunc_extern Tryz.prog 214 _ (ReflectliteType.relation "AssignableTo" ReflectliteType.assignableTo) Tryz.func214 (by kernel_rfl) (by kernel_rfl) (by kernel_rfl) (by kernel_rfl)
 have h119:=@run_callFunc_extern Tryz.prog 163 _ (ReflectliteValue.method (ReflectliteValue.valueError "reflectlite.Value.Elem" 0) ReflectliteValue.elem) Tryz.func163 (by kernel_rfl) (by kernel_rfl) (by kernel_rfl) (by kernel_rfl)
 have h120:=@run_callFunc_extern Tryz.prog 164 _ ReflectliteValue.set Tryz.func164 (by kernel_rfl) (by kernel_rfl) (by kernel_rfl) (by kernel_rfl)
 have tO:=Tryz.typeOf155
 have tO3:=Tryz.typeOf153
 have mA:=Tryz.methodAssignableTo
 have mU:=Tryz.methodUnwrap
 have a5:=Tryz.assignable155
 have a3:=Tryz.assignable153
 have v5:=Tryz.valueOf155
 have f6:=Tryz.valueOf157
 have f7:=Tryz.type157
 have mK:=Tryz.methodKind
 have mE:=Tryz.methodElem
 have mI:=Tryz.methodImplements
 have k7:=Tryz.kind157
 have k5:=Tryz.kind155
 have e7:=Tryz.elem157
 have i5:=Tryz.implements155
 have lA:=Tryz.lacksAs153
 have hU:=Tryz.hasUnwrap153
 have n8:=Tryz.isNil157 ⟨w.heap.size+1,0,none⟩ ⟨w.heap.size,0,none⟩ (((w.alloc (.cells #[.int .i64 0] 160)).alloc (.cells #[.pointer (some ⟨w.heap.size,0,none⟩)] 162)).alloc (.cells #[.pointer (some ⟨4,162,none⟩),.pointer (some ⟨w.heap.size+1,0,none⟩),.int .u64 150] 217)) (by rw [World.cell?_alloc_lt _ _ ⟨w.heap.size+1,0,none⟩ (by simp <;> omega)];rw [World.cell?_alloc_at _ _ _ _ (by simp <;> omega)];rfl)
 have hg2:(((w.alloc (.cells #[.int .i64 0] 160)).alloc (.cells #[.pointer (some ⟨w.heap.size,0,none⟩)] 162)).alloc (.cells #[.pointer (some ⟨4,162,none⟩),.pointer (some ⟨w.heap.size+1,0,none⟩),.int .u64 150] 217)).cell? ⟨0,0,none⟩=some (.iface 257 (.agg #[.pointer (some ⟨4,114,none⟩)])):=((hg.alloc _).alloc _).alloc _
 have el:=Tryz.elemV157 ⟨w.heap.size+1,0,none⟩ ⟨w.heap.size,0,none⟩ (((((w.alloc (.cells #[.int .i64 0] 160)).alloc (.cells #[.pointer (some ⟨w.heap.size,0,none⟩)] 162)).alloc (.cells #[.pointer (some ⟨4,162,none⟩),.pointer (some ⟨w.heap.size+1,0,none⟩),.int .u64 150] 217)).alloc (.cells #[.pointer (some ⟨4,162,none⟩),.pointer (some ⟨w.heap.size+1,0,none⟩),.int .u64 150] 217)).alloc (.cells #[.string s,.iface 160 (.agg #[.int .i64 c])] 166)) (by
  rw [World.cell?_alloc_lt _ _ ⟨w.heap.size+1,0,none⟩ (by simp <;> omega)];rw [World.cell?_alloc_lt _ _ ⟨w.heap.size+1,0,none⟩ (by simp <;> omega)];rw [World.cell?_alloc_lt _ _ ⟨w.heap.size+1,0,none⟩ (by simp <;> omega)]
  rw [World.cell?_alloc_at _ _ _ _ (by simp <;> omega)];rfl)
 have st:=Tryz.set155 ⟨w.heap.size,0,none⟩ ⟨w.heap.size+1+1+1+1+1,0,none⟩ c (.int .i64 0) ((((((w.alloc (.cells #[.int .i64 0] 160)).alloc (.cells #[.pointer (some ⟨w.heap.size,0,none⟩)] 162)).alloc (.cells #[.pointer (some ⟨4,162,none⟩),.pointer (some ⟨w.heap.size+1,0,none⟩),.int .u64 150] 217)).alloc (.cells #[.pointer (some ⟨4,162,none⟩),.pointer (some ⟨w.heap.size+1,0,none⟩),.int .u64 150] 217)).alloc (.cells #[.string s,.iface 160 (.agg #[.int .i64 c])] 166)).alloc (.cells #[.int .i64 c] 160))
  (by rw [World.cell?_alloc_at _ _ _ _ (by simp <;> omega)];rfl)
  (by rw [World.cell?_alloc_lt _ _ ⟨w.heap.size,0,none⟩ (by simp <;> omega)];rw [World.cell?_alloc_lt _ _ ⟨w.heap.size,0,none⟩ (by simp <;> omega)];rw [World.cell?_alloc_lt _ _ ⟨w.heap.size,0,none⟩ (by simp <;> omega)];rw [World.cell?_alloc_lt _ _ ⟨w.heap.size,0,none⟩ (by simp <;> omega)];rw [World.cell?_alloc_lt _ _ ⟨w.heap.size,0,none⟩ (by simp <;> omega)];rw [World.cell?_alloc_at _ _ _ _ (by simp <;> omega)];rfl)
  (by rw [World.frozen?_alloc_old _ _ ⟨w.heap.size,0,none⟩ (by simp <;> omega)];rw [World.frozen?_alloc_old _ _ ⟨w.heap.size,0,none⟩ (by simp <;> omega)];rw [World.frozen?_alloc_old _ _ ⟨w.heap.size,0,none⟩ (by simp <;> omega)];rw [World.frozen?_alloc_old _ _ ⟨w.heap.size,0,none⟩ (by simp <;> omega)];rw [World.frozen?_alloc_old _ _ ⟨w.heap.size,0,none⟩ (by simp <;> omega)];simp)
 go_enter Tryz.func45,Tryz.ntmps45
 go_wp2
 refine wp_loop_rounds 2 ?_
 rw [rounds_succ]
 go_wp2
 rw [rounds_succ]
 go_wp2
 go_ret
 refine ⟨rfl,?_⟩
 repeat (first | exact Below.refl _ _ | refine Below.drew ?_ | refine Below.setCell ?_ (by simp <;> omega) _ | refine Below.alloc ?_ (by simp <;> omega) _)
theorem number_met2 (s s2:ByteArray) (c:Int) (w:World) (hg:Gl w):Calls Tryz.prog 45 #[.iface 166 (.agg #[.string s,.iface 166 (.agg #[.string s2,.iface 160 (.agg #[.int .i64 c])])])] w fun e w'=>e=.returned (.int .i64 c)/\Below w.heap.size w w':=by
 have h102:=@run_callFunc_extern Tryz.prog 126 _ (fun args=>ReflectliteValue.unpack (args.getD 0 (.tuple #[]))) Tryz.func126 (by kernel_rfl) (by kernel_rfl) (by kernel_rfl) (by kernel_rfl)
 have h103:=@run_callFunc_extern Tryz.prog 127 _ (ReflectliteValue.methodAny (ReflectliteValue.valueError "reflectlite.Value.Type" 0) (fun t _ _ _=>ReflectliteType.toType t)) Tryz.func127 (by kernel_rfl) (by kernel_rfl) (by kernel_rfl) (by kernel_rfl)
 have h104:=@run_callFunc_extern Tryz.prog 128 _ (ReflectliteValue.method (ReflectliteValue.valueError "reflectlite.Value.IsNil" 0) ReflectliteValue.isNil) Tryz.func128 (by kernel_rfl) (by kernel_rfl) (by kernel_rfl) (by kernel_rfl)
 have h152:=@run_callFunc_extern Tryz.prog 204 _ (ReflectliteType.abiMethod fun t=>do pure (.int .u8 (<- Rtype.kind t))) Tryz.func204 (by kernel_rfl) (by kernel_rfl) (by kernel_rfl) (by kernel_rfl)
 have h164:=@run_callFunc_extern Tryz.prog 216 _ (ReflectliteType.method ReflectliteType.elem) Tryz.func216 (by kernel_rfl) (by kernel_rfl) (by kernel_rfl) (by kernel_rfl)
 have h165:=@run_callFunc_extern Tryz.prog 217 _ (ReflectliteType.relation "Implements" ReflectliteType.implements_) Tryz.func217 (by kernel_rfl) (by kernel_rfl) (by kernel_rfl) (by kernel_rfl)
 have h118:=@run_callFunc_extern Tryz.prog 162 _ ReflectliteType.typeOf Tryz.func162 (by kernel_rfl) (by kernel_rfl) (by kernel_rfl) (by kernel_rfl)
 have h162:=@run_callFunc_extern Tryz.prog 214 _ (ReflectliteType.relation "AssignableTo" ReflectliteType.assignableTo) Tryz.func214 (by kernel_rfl) (by kernel_rfl) (by kernel_rfl) (by kernel_rfl)
 have h119:=@run_callFunc_extern Tryz.prog 163 _ (ReflectliteValue.method (ReflectliteValue.valueError "reflectlite.Value.Elem" 0) ReflectliteValue.elem) Tryz.func163 (by kernel_rfl) (by kernel_rfl) (by kernel_rfl) (by kernel_rfl)
 have h120:=@run_callFunc_extern Tryz.prog 164 _ ReflectliteValue.set Tryz.func164 (by kernel_rfl) (by kernel_rfl) (by kernel_rfl) (by kernel_rfl)
 have tO:=Tryz.typeOf155
 have tO3:=Tryz.typeOf153
 have mA:=Tryz.methodAssignableTo
 have mU:=Tryz.methodUnwrap
 have a5:=Tryz.assignable155
 have a3:=Tryz.assignable153
 have v5:=Tryz.valueOf155
 have f6:=Tryz.valueOf157
 have f7:=Tryz.type157
 have mK:=Tryz.methodKind
 have mE:=Tryz.methodElem
 have mI:=Tryz.methodImplements
 have k7:=Tryz.kind157
 have k5:=Tryz.kind155
 have e7:=Tryz.elem157
 have i5:=Tryz.implements155
 have lA:=Tryz.lacksAs153
 have hU:=Tryz.hasUnwrap153
 have n8:=Tryz.isNil157 ⟨w.heap.size+1,0,none⟩ ⟨w.heap.size,0,none⟩ (((w.alloc (.cells #[.int .i64 0] 160)).alloc (.cells #[.pointer (some ⟨w.heap.size,0,none⟩)] 162)).alloc (.cells #[.pointer (some ⟨4,162,none⟩),.pointer (some ⟨w.heap.size+1,0,none⟩),.int .u64 150] 217)) (by rw [World.cell?_alloc_lt _ _ ⟨w.heap.size+1,0,none⟩ (by simp <;> omega)];rw [World.cell?_alloc_at _ _ _ _ (by simp <;> omega)];rfl)
 have hg2:(((w.alloc (.cells #[.int .i64 0] 160)).alloc (.cells #[.pointer (some ⟨w.heap.size,0,none⟩)] 162)).alloc (.cells #[.pointer (some ⟨4,162,none⟩),.pointer (some ⟨w.heap.size+1,0,none⟩),.int .u64 150] 217)).cell? ⟨0,0,none⟩=some (.iface 257 (.agg #[.pointer (some ⟨4,114,none⟩)])):=((hg.alloc _).alloc _).alloc _
 have el:=Tryz.elemV157 ⟨w.heap.size+1,0,none⟩ ⟨w.heap.size,0,none⟩ ((((((w.alloc (.cells #[.int .i64 0] 160)).alloc (.cells #[.pointer (some ⟨w.heap.size,0,none⟩)] 162)).alloc (.cells #[.pointer (some ⟨4,162,none⟩),.pointer (some ⟨w.heap.size+1,0,none⟩),.int .u64 150] 217)).alloc (.cells #[.pointer (some ⟨4,162,none⟩),.pointer (some ⟨w.heap.size+1,0,none⟩),.int .u64 150] 217)).alloc (.cells #[.string s,.iface 166 (.agg #[.string s2,.iface 160 (.agg #[.int .i64 c])])] 166)).alloc (.cells #[.string s2,.iface 160 (.agg #[.int .i64 c])] 166)) (by
  rw [World.cell?_alloc_lt _ _ ⟨w.heap.size+1,0,none⟩ (by simp <;> omega)];rw [World.cell?_alloc_lt _ _ ⟨w.heap.size+1,0,none⟩ (by simp <;> omega)];rw [World.cell?_alloc_lt _ _ ⟨w.heap.size+1,0,none⟩ (by simp <;> omega)];rw [World.cell?_alloc_lt _ _ ⟨w.heap.size+1,0,none⟩ (by simp <;> omega)]
  rw [World.cell?_alloc_at _ _ _ _ (by simp <;> omega)];rfl)
 have st:=Tryz.set155 ⟨w.heap.size,0,none⟩ ⟨w.heap.size+1+1+1+1+1+1,0,none⟩ c (.int .i64 0) (((((((w.alloc (.cells #[.int .i64 0] 160)).alloc (.cells #[.pointer (some ⟨w.heap.size,0,none⟩)] 162)).alloc (.cells #[.pointer (some ⟨4,162,none⟩),.pointer (some ⟨w.heap.size+1,0,none⟩),.int .u64 150] 217)).alloc (.cells #[.pointer (some ⟨4,162,none⟩),.pointer (some ⟨w.heap.size+1,0,none⟩),.int .u64 150] 217)).alloc (.cells #[.string s,.iface 166 (.agg #[.string s2,.iface 160 (.agg #[.int .i64 c])])] 166)).alloc (.cells #[.string s2,.iface 160 (.agg #[.int .i64 c])] 166)).alloc (.cells #[.int .i64 c] 160))
  (by rw [World.cell?_alloc_at _ _ _ _ (by simp <;> omega)];rfl)
  (by rw [World.cell?_alloc_lt _ _ ⟨w.heap.size,0,none⟩ (by simp <;> omega)];rw [World.cell?_alloc_lt _ _ ⟨w.heap.size,0,none⟩ (by simp <;> omega)];rw [World.cell?_alloc_lt _ _ ⟨w.heap.size,0,none⟩ (by simp <;> omega)];rw [World.cell?_alloc_lt _ _ ⟨w.heap.size,0,none⟩ (by simp <;> omega)];rw [World.cell?_alloc_lt _ _ ⟨w.heap.size,0,none⟩ (by simp <;> omega)];rw [World.cell?_alloc_lt _ _ ⟨w.heap.size,0,none⟩ (by simp <;> omega)];rw [World.cell?_alloc_at _ _ _ _ (by simp <;> omega)];rfl)
  (by rw [World.frozen?_alloc_old _ _ ⟨w.heap.size,0,none⟩ (by simp <;> omega)];rw [World.frozen?_alloc_old _ _ ⟨w.heap.size,0,none⟩ (by simp <;> omega)];rw [World.frozen?_alloc_old _ _ ⟨w.heap.size,0,none⟩ (by simp <;> omega)];rw [World.frozen?_alloc_old _ _ ⟨w.heap.size,0,none⟩ (by simp <;> omega)];rw [World.frozen?_alloc_old _ _ ⟨w.heap.size,0,none⟩ (by simp <;> omega)];rw [World.frozen?_alloc_old _ _ ⟨w.heap.size,0,none⟩ (by simp <;> omega)];simp)
 go_enter Tryz.func45,Tryz.ntmps45
 go_wp2
 refine wp_loop_rounds 3 ?_
 rw [rounds_succ]
 go_wp2
 rw [rounds_succ]
 go_wp2
 rw [rounds_succ]
 go_wp2
 go_ret
 refine ⟨rfl,?_⟩
 repeat (first | exact Below.refl _ _ | refine Below.drew ?_ | refine Below.setCell ?_ (by simp <;> omega) _ | refine Below.alloc ?_ (by simp <;> omega) _)
open Go.RowKit
structure Fns where
 current:Nat
 tick:Nat
 ipc:Nat
 yield:Nat
 load:Nat
 store:Nat
 unmap:Nat
 derive:Nat
 drop:Nat
def Left (Rep:World->Nat->(Nat->Prop)->RM->Prop) (x:Nat) (S:Nat->Prop) (K:RM) (w w':World):Prop:=(∃ S',Rep w' x S' K/\∀ b,S' b->S b\/w.heap.size<=b)/\Fr S w w'
def msV (m:Ms) (sa:Option Addr) (sc:Nat):Value:=.agg #[.int .i64 m.dst,.slice sa m.words.length sc,.int .i64 m.item,.int .i64 m.rt,.int .i64 m.frm,.int .i64 m.win,.int .i64 m.wait]
structure Runs (G:World->Prop) (f:Fns) (Rep:World->Nat->(Nat->Prop)->RM->Prop):Prop where
 kept:∀ {w w':World}{x:Nat}{S T:Nat->Prop}{K:RM},Rep w x S K->Fr T w w'->(∀ b,S b->¬ T b)->Rep w' x S K
 lt:∀ {w:World}{x:Nat}{S:Nat->Prop}{K:RM},Rep w x S K->∀ b,S b->b < w.heap.size
 current:∀ (x:Nat) (S:Nat->Prop) (K:RM) (n:Nat) (w:World),Rep w x S K->K.Ok n ->
  Calls Tryz.prog f.current #[.pointer (some ⟨x,0,none⟩)] w fun e w'=>e=.returned (.int .i64 K.cur)/\Below w.heap.size w w'
 tick:∀ (x:Nat) (S:Nat->Prop) (K:RM) (n:Nat) (w:World),Rep w x S K->K.Ok n->n<=1000000000000000 ->
  Calls Tryz.prog f.tick #[.pointer (some ⟨x,0,none⟩)] w fun e w'=>e=.returned (.tuple #[])/\Left Rep x S K.tick w w'
 ipc:∀ (x:Nat) (S:Nat->Prop) (K:RM) (n:Nat) (m:Ms) (sa:Option Addr) (sc:Nat) (w:World),G w->Rep w x S K->K.Ok n->n<=1000000000000000->Inl w 1 (.slice sa m.words.length sc) (m.words.map lnI)->(∀ k,inBlock (.slice sa m.words.length sc)=some k->¬ S k) ->
  Calls Tryz.prog f.ipc #[.pointer (some ⟨x,0,none⟩),msV m sa sc] w fun e w'=>e=.returned (.int .i64 (K.ipc m).1)/\Left Rep x S (K.ipc m).2 w w'
 yield:∀ (x:Nat) (S:Nat->Prop) (K:RM) (n:Nat) (w:World),G w->Rep w x S K->K.Ok n->n<=1000000000000000 ->
  Calls Tryz.prog f.yield #[.pointer (some ⟨x,0,none⟩)] w fun e w'=>e=.returned (.int .i64 K.yield.1)/\Left Rep x S K.yield.2 w w'
 load:∀ (x:Nat) (S:Nat->Prop) (K:RM) (n:Nat) (pg ce:Int) (w:World),G w->Rep w x S K->K.Ok n ->
  Calls Tryz.prog f.load #[.pointer (some ⟨x,0,none⟩),.int .i64 pg,.int .i64 ce] w fun e w'=>e=.returned (.tuple #[.int .i64 (K.load pg ce).1,.int .i64 (K.load pg ce).2])/\Below w.heap.size w w'
 store:∀ (x:Nat) (S:Nat->Prop) (K:RM) (n:Nat) (pg ce v:Int) (w:World),G w->Rep w x S K->K.Ok n ->
  Calls Tryz.prog f.store #[.pointer (some ⟨x,0,none⟩),.int .i64 pg,.int .i64 ce,.int .i64 v] w fun e w'=>e=.returned (.int .i64 (K.touch pg ce 2).2)/\Left Rep x S (K.stored pg ce v) w w'
 unmap:∀ (x:Nat) (S:Nat->Prop) (K:RM) (n:Nat) (pg:Int) (own:Bool) (w:World),G w->Rep w x S K->K.Ok n ->
  Calls Tryz.prog f.unmap #[.pointer (some ⟨x,0,none⟩),.int .i64 pg,.bool own] w fun e w'=>e=.returned (.int .i64 (K.unmap pg own).1)/\Left Rep x S (K.unmap pg own).2 w w'
 derive:∀ (x:Nat) (S:Nat->Prop) (K:RM) (n:Nat) (a b r:Int) (w:World),G w->Rep w x S K->K.Ok n ->
  Calls Tryz.prog f.derive #[.pointer (some ⟨x,0,none⟩),.int .i64 a,.int .i64 b,.int .i64 r] w fun e w'=>e=.returned (.int .i64 (K.derive a b r).1)/\Left Rep x S (K.derive a b r).2 w w'
 drop:∀ (x:Nat) (S:Nat->Prop) (K:RM) (n:Nat) (a:Int) (w:World),G w->Rep w x S K->K.Ok n ->
  Calls Tryz.prog f.drop #[.pointer (some ⟨x,0,none⟩),.int .i64 a] w fun e w'=>e=.returned (.int .i64 (K.drop a).1)/\Left Rep x S (K.drop a).2 w w'
open Go.RowKit
def progFns:Fns:=⟨18,19,23,22,41,39,30,48,49⟩
structure ApM (Rep:World->Nat->(Nat->Prop)->RM->Prop):Prop extends Runs Gl progFns Rep where
 new_no:∀ (sp:Int) (vT vP vL:Value) (T:List (Int×Int)) (Q L:List (Int×Int×Int×Int)) (w:World),Gl w->Inl w 2 vT (T.map tRow)->Inl w 4 vP (Q.map qRow)->Inl w 4 vL (L.map qRow)->¬ Fits sp T Q L ->
  Calls Tryz.prog 42 #[.agg #[.int .i64 sp,vT,vP,vL]] w fun e w'=>e=.returned (.tuple #[.pointer none,.int .i64 1])/\Below w.heap.size w w'
 new_yes:∀ (sp:Int) (vT vP vL:Value) (T:List (Int×Int)) (Q L:List (Int×Int×Int×Int)) (w:World),Inl w 2 vT (T.map tRow)->Inl w 4 vP (Q.map qRow)->Inl w 4 vL (L.map qRow)->Fits sp T Q L ->
  Calls Tryz.prog 42 #[.agg #[.int .i64 sp,vT,vP,vL]] w fun e w'=>∃ x S,e=.returned (.tuple #[.pointer (some ⟨x,0,none⟩),.int .i64 0])/\Rep w' x S (RK.new sp T Q L).up/\Below w.heap.size w w'/\∀ b,S b->w.heap.size<=b
 look_no:∀ (x:Nat) (S:Nat->Prop) (K:RM) (n:Nat) (t:Int) (w:World),Gl w->Rep w x S K->K.Ok n->¬ (0<=t/\t < K.threads.length) ->
  Calls Tryz.prog 40 #[.pointer (some ⟨x,0,none⟩),.int .i64 t] w fun e w'=>∃ v,e=.returned (.tuple #[.agg #[.int .i64 0,.int .i64 0,.int .i64 0,v,.int .i64 0],.int .i64 3])/\Sl w' 2 1 v []/\Below w.heap.size w w'/\∀ b,v.ownBlock=some b->w.heap.size<=b
 look_yes:∀ (x:Nat) (S:Nat->Prop) (K:RM) (n:Nat) (t:Nat) (u:Th) (w:World),Rep w x S K->K.Ok n->K.threads[t]? = some u ->
  Calls Tryz.prog 40 #[.pointer (some ⟨x,0,none⟩),.int .i64 t] w fun e w'=>∃ v,e=.returned (.tuple #[.agg #[.int .i64 u.st,.int .i64 u.code,.int .i64 u.who,v,.int .i64 u.got],.int .i64 0])/\Sl w' 2 1 v (u.ws.map lnI)/\Below w.heap.size w w'/\∀ b,v.ownBlock=some b->w.heap.size<=b
 space_no:∀ (x:Nat) (S:Nat->Prop) (K:RM) (n:Nat) (t:Int) (w:World),Gl w->Rep w x S K->K.Ok n->¬ (0<=t/\t < K.sp) ->
  Calls Tryz.prog 52 #[.pointer (some ⟨x,0,none⟩),.int .i64 t] w fun e w'=>∃ v u,e=.returned (.tuple #[.agg #[v,u],.int .i64 3])/\Sl w' 55 4 v []/\Sl w' 67 4 u []/\Below w.heap.size w w'/\(∀ b,v.ownBlock=some b\/u.ownBlock=some b->w.heap.size<=b)/\∀ b,v.ownBlock=some b->u.ownBlock≠some b
 space_yes:∀ (x:Nat) (S:Nat->Prop) (K:RM) (n:Nat) (t:Int) (w:World),Rep w x S K->K.Ok n->0<=t->t < K.sp ->
  Calls Tryz.prog 52 #[.pointer (some ⟨x,0,none⟩),.int .i64 t] w fun e w'=>∃ v u,e=.returned (.tuple #[.agg #[v,u],.int .i64 0])/\Sl w' 55 4 v ((told K.passes t 6).map qRow)/\Sl w' 67 4 u ((told (K.leaves.map quad) t 6).map qRow)/\Below w.heap.size w w'/\(∀ b,v.ownBlock=some b\/u.ownBlock=some b->w.heap.size<=b)/\∀ b,v.ownBlock=some b->u.ownBlock≠some b
open Go.RowKit
theorem pickK_any (c n:Int) (w:World) (c1:-9223372036854775808<=c) (c2:c<=9223372036854775807) (n1:0 < n) (n2:n<=9223372036854775807) :
  Calls Tryz.prog 16 #[.int .i64 c,.int .i64 n] w fun e w'=>e=.returned (.int .i64 (pickI c n))/\w'=w:=by
 have hb:(n == 0)=false:=beq_eq_false_iff_ne.2 (by omega)
 by_cases h:c < 0
 ·have e1:Hid ((-(c+1)).tmod n=pickI c n):=by
   unfold Hid pickI;rw [if_pos h,Int.tmod_eq_emod_of_nonneg (by omega)]
  go_enter Tryz.func16,Tryz.ntmps16
  go_wp2
  go_ret
  refine ⟨?_,rfl⟩
  have e2:-(c+1).tmod n=pickI c n:=by rw [<- e1.out,Int.neg_tmod]
  exact ret_int e2
 ·have e1:Hid (c % n=pickI c n):=by unfold Hid pickI;rw [if_neg h]
  go_enter Tryz.func16,Tryz.ntmps16
  go_wp2
  go_ret
  exact ⟨ret_int e1.out,rfl⟩
theorem pickI_in (c:Int){n:Int}(h:0 < n):0<=pickI c n/\pickI c n < n:=⟨Int.emod_nonneg _ (by omega),Int.emod_lt_of_pos _ h⟩
structure KS (Rep:World->Nat->(Nat->Prop)->RM->Prop) (W w:World) (x:Nat) (S:Nat->Prop) (K:RM) (n:Nat):Prop where
 rep:Rep w x S K
 new:∀ k,S k->W.heap.size<=k
 gl:Gl W
 bel:Below W.heap.size W w
 ok:K.Ok n
def KN (Rep:World->Nat->(Nat->Prop)->RM->Prop) (W w:World) (x:Nat) (S:Nat->Prop) (K:RM) (n:Nat) (w':World):Prop:=∃ S',KS Rep W w' x S' K n/\(∀ b,S' b->S b\/w.heap.size<=b)/\Fr S w w'
section
variable {Rep:World->Nat->(Nat->Prop)->RM->Prop}(A:ApM Rep){W w w':World}{x:Nat}{S:Nat->Prop}{K K':RM}{n:Nat}
theorem KS.glw (h:KS Rep W w x S K n):Gl w:=h.gl.below h.bel
theorem KS.mono (h:KS Rep W w x S K n){m:Nat}(hm:n<=m):KS Rep W w x S K m:=⟨h.rep,h.new,h.gl,h.bel,h.ok.mono hm⟩
include A
theorem KS.below (h:KS Rep W w x S K n) (hb:Below w.heap.size w w'):KS Rep W w' x S K n:=
 ⟨A.kept h.rep (Fr.of_below hb (fun _=>False)) (fun _ _ h=>h),h.new,h.gl,h.bel.trans (hb.mono h.bel.size),h.ok⟩
theorem KS.lt (h:KS Rep W w x S K n):∀ b,S b->b < w.heap.size:=A.lt h.rep
theorem KS.fr (h:KS Rep W w x S K n){T:Nat->Prop}(hf:Fr T w w') (hn:∀ b,S b->¬ T b) (h0:∀ b,T b->W.heap.size<=b):KS Rep W w' x S K n:=
 ⟨A.kept h.rep hf hn,h.new,h.gl,h.bel.trans (hf.to_below h.bel.size h0),h.ok⟩
omit A in
theorem KS.left (h:KS Rep W w x S K n) (L:Left Rep x S K' w w') (ok:K'.Ok (n+1)):KN Rep W w x S K' (n+1) w':=by
 obtain ⟨⟨S',h1,h2⟩,F⟩:=L
 refine ⟨S',⟨h1,fun k hk=>?_,h.gl,h.bel.trans (F.to_below h.bel.size h.new),ok⟩,h2,F⟩
 rcases h2 k hk with e | e
 ·exact h.new k e
 ·exact Nat.le_trans h.bel.size e
theorem ks_current (h:KS Rep W w x S K n):Calls Tryz.prog 18 #[.pointer (some ⟨x,0,none⟩)] w fun e w'=>e=.returned (.int .i64 K.cur)/\Below w.heap.size w w'/\KS Rep W w' x S K n:=
 (A.current x S K n w h.rep h.ok).mono (by rintro e w' ⟨rfl,b⟩;exact ⟨rfl,b,h.below A b⟩)
theorem ks_tick (h:KS Rep W w x S K n) (hn:n<=1000000000000000):Calls Tryz.prog 19 #[.pointer (some ⟨x,0,none⟩)] w fun e w'=>e=.returned (.tuple #[])/\KN Rep W w x S K.tick (n+1) w':=
 (A.tick x S K n w h.rep h.ok hn).mono (by rintro e w' ⟨rfl,L⟩;exact ⟨rfl,h.left L h.ok.tick⟩)
theorem ks_yield (h:KS Rep W w x S K n) (hn:n<=1000000000000000):Calls Tryz.prog 22 #[.pointer (some ⟨x,0,none⟩)] w fun e w'=>e=.returned (.int .i64 K.yield.1)/\KN Rep W w x S K.yield.2 (n+1) w':=
 (A.yield x S K n w h.glw h.rep h.ok hn).mono (by rintro e w' ⟨rfl,L⟩;exact ⟨rfl,h.left L h.ok.yield⟩)
theorem ks_ipc (h:KS Rep W w x S K n) (hn:n<=1000000000000000) (m:Ms) (sa:Option Addr) (sc:Nat) (hI:Inl w 1 (.slice sa m.words.length sc) (m.words.map lnI)) (hN:∀ k,inBlock (.slice sa m.words.length sc)=some k->¬ S k) :
  Calls Tryz.prog 23 #[.pointer (some ⟨x,0,none⟩),msV m sa sc] w fun e w'=>e=.returned (.int .i64 (K.ipc m).1)/\KN Rep W w x S (K.ipc m).2 (n+1) w':=
 (A.ipc x S K n m sa sc w h.glw h.rep h.ok hn hI hN).mono (by rintro e w' ⟨rfl,L⟩;exact ⟨rfl,h.left L (h.ok.ipc m)⟩)
theorem ks_load (h:KS Rep W w x S K n) (pg ce:Int):Calls Tryz.prog 41 #[.pointer (some ⟨x,0,none⟩),.int .i64 pg,.int .i64 ce] w fun e w'=>e=.returned (.tuple #[.int .i64 (K.load pg ce).1,.int .i64 (K.load pg ce).2])/\Below w.heap.size w w'/\KS Rep W w' x S K n:=
 (A.load x S K n pg ce w h.glw h.rep h.ok).mono (by rintro e w' ⟨rfl,b⟩;exact ⟨rfl,b,h.below A b⟩)
theorem ks_store (h:KS Rep W w x S K n) (pg ce v:Int):Calls Tryz.prog 39 #[.pointer (some ⟨x,0,none⟩),.int .i64 pg,.int .i64 ce,.int .i64 v] w fun e w'=>e=.returned (.int .i64 (K.touch pg ce 2).2)/\KN Rep W w x S (K.stored pg ce v) (n+1) w':=
 (A.store x S K n pg ce v w h.glw h.rep h.ok).mono (by rintro e w' ⟨rfl,L⟩;exact ⟨rfl,h.left L (h.ok.stored pg ce v)⟩)
theorem ks_unmap (h:KS Rep W w x S K n) (pg:Int) (own:Bool):Calls Tryz.prog 30 #[.pointer (some ⟨x,0,none⟩),.int .i64 pg,.bool own] w fun e w'=>e=.returned (.int .i64 (K.unmap pg own).1)/\KN Rep W w x S (K.unmap pg own).2 (n+1) w':=
 (A.unmap x S K n pg own w h.glw h.rep h.ok).mono (by rintro e w' ⟨rfl,L⟩;exact ⟨rfl,h.left L (h.ok.unmap pg own)⟩)
theorem ks_derive (h:KS Rep W w x S K n) (a b r:Int):Calls Tryz.prog 48 #[.pointer (some ⟨x,0,none⟩),.int .i64 a,.int .i64 b,.int .i64 r] w fun e w'=>e=.returned (.int .i64 (K.derive a b r).1)/\KN Rep W w x S (K.derive a b r).2 (n+1) w':=
 (A.derive x S K n a b r w h.glw h.rep h.ok).mono (by rintro e w' ⟨rfl,L⟩;exact ⟨rfl,h.left L (h.ok.derive a b r)⟩)
theorem ks_drop (h:KS Rep W w x S K n) (a:Int):Calls Tryz.prog 49 #[.pointer (some ⟨x,0,none⟩),.int .i64 a] w fun e w'=>e=.returned (.int .i64 (K.drop a).1)/\KN Rep W w x S (K.drop a).2 (n+1) w':=
 (A.drop x S K n a w h.glw h.rep h.ok).mono (by rintro e w' ⟨rfl,L⟩;exact ⟨rfl,h.left L (h.ok.drop a)⟩)
theorem ks_look (h:KS Rep W w x S K n) (t:Nat) (u:Th) (hu:K.threads[t]? = some u):Calls Tryz.prog 40 #[.pointer (some ⟨x,0,none⟩),.int .i64 t] w fun e w'=>∃ a c,e=.returned (.tuple #[.agg #[.int .i64 u.st,.int .i64 u.code,.int .i64 u.who,.slice a u.ws.length c,.int .i64 u.got],.int .i64 0])/\Sl w' 2 1 (.slice a u.ws.length c) (u.ws.map lnI)/\Below w.heap.size w w'/\(∀ b,Value.ownBlock (.slice a u.ws.length c)=some b->w.heap.size<=b)/\KS Rep W w' x S K n:=
 (A.look_yes x S K n t u w h.rep h.ok hu).mono (by
  rintro e w' ⟨v,rfl,s,b,nb⟩
  obtain ⟨a,c,e⟩:=s.slice
  rw [List.length_map] at e
  subst e
  exact ⟨a,c,rfl,s,b,nb,h.below A b⟩)
theorem ks_space (h:KS Rep W w x S K n) (t:Int) (t0:0<=t) (t1:t < K.sp):Calls Tryz.prog 52 #[.pointer (some ⟨x,0,none⟩),.int .i64 t] w fun e w'=>∃ v u,e=.returned (.tuple #[.agg #[v,u],.int .i64 0])/\Sl w' 55 4 v ((told K.passes t 6).map qRow)/\Sl w' 67 4 u ((told (K.leaves.map quad) t 6).map qRow)/\Below w.heap.size w w'/\KS Rep W w' x S K n:=
 (A.space_yes x S K n t w h.rep h.ok t0 t1).mono (by
  rintro e w' ⟨v,u,rfl,s1,s2,b,_⟩
  exact ⟨v,u,rfl,s1,s2,b,h.below A b⟩)
end
section
variable {Rep:World->Nat->(Nat->Prop)->RM->Prop}(A:ApM Rep)
include A in
theorem boot_any (sp:Int) (aT aP aL:Option Addr) (mT mP mL cT cP cL:Nat) (T:List (Int×Int)) (Q L:List (Int×Int×Int×Int)) (w:World) (hg:Gl w) (iT:Inl w 2 (.slice aT mT cT) (T.map tRow)) (iP:Inl w 4 (.slice aP mP cP) (Q.map qRow)) (iL:Inl w 4 (.slice aL mL cL) (L.map qRow)) (hf:Fits sp T Q L) (n:Nat) :
  Calls Tryz.prog 17 #[.agg #[.int .i64 sp,.slice aT mT cT,.slice aP mP cP,.slice aL mL cL]] w fun e w'=>∃ x S,e=.returned (.pointer (some ⟨x,0,none⟩))/\KS Rep w w' x S (RK.new sp T Q L).up n/\Below w.heap.size w w':=by
 have hb:Below w.heap.size w (w.alloc (.cells #[.int .i64 sp,.slice aT mT cT,.slice aP mP cP,.slice aL mL cL] 32)):=(Below.refl _ w).alloc (Nat.le_refl _) _
 have C:=hid (A.new_yes sp _ _ _ T Q L _ (iT.below (by omega) hb) (iP.below (by omega) hb) (iL.below (by omega) hb) hf)
 have HB:=hid (And.intro hb (And.intro hg (new_okM hf n)))
 clear hb iT iP iL hg hf
 go_enter Tryz.func17,Tryz.ntmps17
 go_wp2_with (go_at_call 42;refine C.out.mono ?_;rintro e w2 ⟨x,S,rfl,R2,B2,N2⟩;have H2:=hid (And.intro R2 (And.intro B2 N2));clear R2 B2 N2)
 go_ret
 have bb:Below w.heap.size w w2:=HB.out.1.trans (H2.out.2.1.mono (by simp))
 exact ⟨x,S,rfl,⟨H2.out.1,fun k hk=>by have:=H2.out.2.2 k hk;simp at this;omega,HB.out.2.1,bb,HB.out.2.2⟩,bb⟩
abbrev c5 (st code who:Int) (a:Option Addr) (n c:Nat) (got:Int):Array Value:=#[.int .i64 st,.int .i64 code,.int .i64 who,.slice a n c,.int .i64 got]
theorem c5_one (st code who:Int) (a:Option Addr) (n c:Nat) (got:Int):(c5 st code who a n c got).all (·.oneCell')=true:=by simp [Value.oneCell']
include A in
theorem lookK_any {W w:World}{x:Nat}{S:Nat->Prop}{K:RM}{n:Nat}(h:KS Rep W w x S K n) (t:Nat) (u:Th) (hu:K.threads[t]? = some u) :
  Calls Tryz.prog 25 #[.pointer (some ⟨x,0,none⟩),.int .i64 t] w fun e w'=>∃ a c,e=.returned (.tuple #[.agg (c5 u.st u.code u.who a u.ws.length c u.got),.bool true])/\Sl w' 2 1 (.slice a u.ws.length c) (u.ws.map lnI)/\Below w.heap.size w w'/\(∀ b,Value.ownBlock (.slice a u.ws.length c)=some b->w.heap.size<=b)/\KS Rep W w' x S K n:=by
 have hb:Below w.heap.size w (w.alloc (.cells #[.int .i64 0,.int .i64 0,.int .i64 0,.slice none 0 0,.int .i64 0] 50)):=(Below.refl _ w).alloc (Nat.le_refl _) _
 have C:=hid (ks_look A (h.below A hb) t u hu)
 have HB:=hid (And.intro hb h)
 have HN:=hid (heap_alloc_new w (.cells #[.int .i64 0,.int .i64 0,.int .i64 0,.slice none 0 0,.int .i64 0] 50))
 obtain ⟨st,code,who,ws,got,hst⟩:∃ st code who ws got,u.st=st/\u.code=code/\u.who=who/\u.ws=ws/\u.got=got:=⟨_,_,_,_,_,rfl,rfl,rfl,rfl,rfl⟩
 obtain ⟨e1,e2,e3,e4,e5⟩:=hst
 rw [e1,e2,e3,e4,e5] at C
 rw [e1,e2,e3,e4,e5]
 obtain ⟨m,hm⟩:∃ m,ws.length=m:=⟨_,rfl⟩
 rw [hm] at C ⊢
 clear hb h hu e1 e2 e3 e4 e5 hm
 go_enter Tryz.func25,Tryz.ntmps25
 go_wp2_with (first
  | (go_at_call 40;refine C.out.mono ?_;rintro e w2 ⟨a,c,rfl,s2,b2,n2,k2⟩;have q2:=(b2.block w.heap.size (by simp)).trans HN.out;have q3:=(Below.heap_alloc w2 (.cells (c5 st code who a m c got) 50) w.heap.size (by have:=b2.size;simp at this;omega)).trans q2;have R2:Hid ((w2.alloc (.cells (c5 st code who a m c got) 50)).rangeAt w2.heap.size 0 (c5 st code who a m c got).toList):=(fun j v hv=>by rw [cell_of_row _ _ (0+j) _ _ _ (heap_alloc_new w2 _),Nat.zero_add,List.getElem?_toArray];exact hv);have H2:=hid (And.intro s2 (And.intro b2 (And.intro n2 (And.intro k2 q3))));clear s2 b2 n2 k2 q2 q3)
  | (with_reducible (show wpList _ _ _ (⟨_,.store 50 (.tmp 6) _,_,_,_,none⟩ :: _) _ _);go_must (refine wpList_store_new rfl 50 _ _ rfl w2 _ (c5 st code who a m c got) 50 (by simp [Act.eval]) rfl (by kernel_rfl) rfl (c5_one _ _ _ _ _ _ _) ?_))
  | (with_reducible (show wpList _ _ _ (⟨_,.load 50 _,_,_,_,none⟩ :: _) _ _);go_must (refine wpList_load_mid rfl 50 _ rfl w2.heap.size 0 rfl _ _ R2.out Tryz.underlying50 rfl (by kernel_rfl) ?_))
  | (with_reducible (show wpList _ _ _ (⟨_,.store 50 (.tmp 4) _,_,_,_,none⟩ :: _) _ _);go_must (refine wpList_store_row rfl 50 _ _ rfl w.heap.size (c5 st code who a m c got) (by simp [Act.eval]) rfl 50 _ H2.out.2.2.2.2 (by kernel_rfl) rfl (c5_one _ _ _ _ _ _ _) ?_)))
 have hg:=setRow_heap (w2.alloc (.cells (c5 st code who a m c got) 50)) w.heap.size _ (c5 st code who a m c got) 50 (0,0) H2.out.2.2.2.2
 have F:Fr (fun k=>k=w.heap.size) (w2.alloc (.cells (c5 st code who a m c got) 50)) ((w2.alloc (.cells (c5 st code who a m c got) 50)).setRow w.heap.size (c5 st code who a m c got)):=(Fr.refl (fun k=>k=w.heap.size) _).setRow (fun _=>rfl) _
 have F2:Fr (fun k=>k=w.heap.size) w2 ((w2.alloc (.cells (c5 st code who a m c got) 50)).setRow w.heap.size (c5 st code who a m c got)):=((Fr.refl _ w2).alloc _).trans F
 have z2:=H2.out.2.1.size
 simp only [size_alloc] at z2
 have bw:Below w.heap.size w w2:=HB.out.1.trans (H2.out.2.1.mono (by simp))
 refine bodyPost_ret (results_row_tmp Tryz.results25 _ _ w.heap.size 50 _ (0,0) _ _ rfl hg Tryz.underlying50 rfl (by kernel_rfl) rfl) rfl ⟨a,c,rfl,H2.out.1.kept F2 (fun k hk e=>?_),bw.trans (F2.to_below bw.size (fun k e=>by omega)),fun b hk=>?_,H2.out.2.2.2.1.fr A F2 (fun b hk e=>?_) (fun b e=>?_)⟩
 ·have:=H2.out.2.2.1 k hk;simp at this;omega
 ·have:=H2.out.2.2.1 b hk;simp at this;omega
 ·have:=HB.out.2.lt A b hk;omega
 ·have:=HB.out.2.bel.size;omega
end
def twT:List (Int×Int):=[(0,2),(1,2)]
def twQ:List (Int×Int×Int×Int):=[(0,3,1,3),(1,0,0,3)]
def twL:List (Int×Int×Int×Int):=[(0,1,5,3)]
theorem two_any (w:World) :
  Calls Tryz.prog 20 #[] w fun e w'=>∃ b1 b2 b3,e=.returned (.agg #[.int .i64 2,.slice (some ⟨b1,0,none⟩) 2 2,.slice (some ⟨b2,0,none⟩) 2 2,.slice (some ⟨b3,0,none⟩) 1 1]) /\
   Inl w' 2 (.slice (some ⟨b1,0,none⟩) 2 2) (twT.map tRow)/\Inl w' 4 (.slice (some ⟨b2,0,none⟩) 2 2) (twQ.map qRow)/\Inl w' 4 (.slice (some ⟨b3,0,none⟩) 1 1) (twL.map qRow)/\Below w.heap.size w w':=by
 go_enter Tryz.func20,Tryz.ntmps20
 go_wp2
 have h4:=new4 w (.cells #[.int .i64 2,.slice (some ⟨w.heap.size+1,0,none⟩) 2 2,.slice (some ⟨w.heap.size+1+1,0,none⟩) 2 2,.slice (some ⟨w.heap.size+1+1+1,0,none⟩) 1 1] 32) (.cells #[.int .i64 0,.int .i64 2,.int .i64 1,.int .i64 2] 34) (.cells #[.int .i64 0,.int .i64 3,.int .i64 1,.int .i64 3,.int .i64 1,.int .i64 0,.int .i64 0,.int .i64 3] 55) (.cells #[.int .i64 0,.int .i64 1,.int .i64 5,.int .i64 3] 67)
 refine bodyPost_ret (v:=.agg #[.int .i64 2,.slice (some ⟨w.heap.size+1,0,none⟩) 2 2,.slice (some ⟨w.heap.size+1+1,0,none⟩) 2 2,.slice (some ⟨w.heap.size+1+1+1,0,none⟩) 1 1]) (results_cell_row Tryz.results20 _ _ w.heap.size 32 _ (0,0) _ rfl h4.1 Tryz.underlying32 rfl (by kernel_rfl)) rfl ⟨_,_,_,rfl,inl_lit h4.2.1 rfl rfl ?_ ?_ (by decide),inl_lit h4.2.2.1 rfl rfl ?_ ?_ (by decide),inl_lit h4.2.2.2 rfl rfl ?_ ?_ (by decide),?_⟩
 all_goals try (intro r hr;simp [twT,twQ,twL,tRow,qRow] at hr;rcases hr with rfl | rfl <;> first | rfl | (intro u hu;simp at hu;rcases hu with rfl | rfl | rfl | rfl <;> rfl) | (intro u hu;simp at hu;rcases hu with rfl | rfl <;> rfl) | (intro u hu;simp at hu;subst hu;rfl) | (intro u hu;simp at hu;rcases hu with rfl | rfl | rfl <;> rfl))
 all_goals try (intro r hr;simp [twT,twQ,twL,tRow,qRow] at hr;subst hr;first | rfl | (intro u hu;simp at hu;rcases hu with rfl | rfl | rfl | rfl <;> rfl) | (intro u hu;simp at hu;rcases hu with rfl | rfl | rfl <;> rfl))
 exact ((((Below.refl _ w).alloc (Nat.le_refl _) _).alloc (by simp) _).alloc (by simp;omega) _).alloc (by simp;omega) _
theorem fits_tw:Fits 2 twT twQ twL:=by
 have at3:∀ {α:Type}{l:List α}{i:Nat}{p:α},l[i]? = some p->p∈l:=fun h=>List.mem_of_getElem? h
 refine ⟨by omega,by decide,?_,?_,?_,?_,?_⟩
 ·intro i p hp
  have:=at3 hp
  simp [twT] at this
  rcases this with rfl | rfl <;> simp [okT]
 ·intro i p hp
  have:=at3 hp
  simp [twQ] at this
  rcases this with rfl | rfl <;> simp [okQ,twT]
 ·intro i k p q hk hp hq
  have hi:=(List.getElem?_eq_some_iff.1 hp).1
  simp [twQ] at hi
  have e1:i=1:=by omega
  have e2:k=0:=by omega
  subst e1 e2
  simp [twQ] at hp hq
  subst hp hq
  simp
 ·intro i p hp
  have:=at3 hp
  simp [twL] at this
  subst this
  simp [okQ]
 ·intro i k p q hk hp hq
  have hi:=(List.getElem?_eq_some_iff.1 hp).1
  simp [twL] at hi
  omega
open Go.RowKit Go.ChangeShapes Go.WideShapes Go.Deep
theorem inl_of_cells {w:World}{base:Nat}{a:Addr}{len cap s:Nat}(R:Nat->List Value) (hs:0 < s) (hl:len<=maxLen) (h:∀ i,i < len->w.cells? base (a.add (i*s)) s=some (R i)) (h1:∀ i,i < len->∀ u∈R i,u.oneCell'=true) :
  Inl w s (.slice (some a) len cap) ((List.range len).map R):=by
 have hR:∀ i,i < len->(R i).length=s:=fun i hi=>(World.cells?_some (h i hi)).2.1
 have hlen:∀ r∈(List.range len).map R,r.length=s:=by
  intro r hr
  obtain ⟨i,hi,rfl⟩:=List.mem_map.1 hr
  exact hR i (List.mem_range.1 hi)
 refine ⟨hlen,?_,some a,cap,by simp,by simpa using hl,?_⟩
 ·intro r hr u hu
  obtain ⟨i,hi,rfl⟩:=List.mem_map.1 hr
  exact h1 i (List.mem_range.1 hi) u hu
 ·by_cases h0:len=0
  ·left;subst h0;rfl
  ·right
   have c0:=(World.cells?_some (h 0 (by omega))).2.2 0 hs
   have hsp:a.spot=none:=by
    have hx:(R 0)[0]? = some ((R 0)[0]'(by rw [hR 0 (by omega)];exact hs)):=List.getElem?_eq_getElem _
    rw [hx] at c0
    have:=World.cell?_spot c0
    simpa [Addr.add] using this
   obtain ⟨b,off,sp⟩:=a
   simp only at hsp
   subst hsp
   refine ⟨b,off,rfl,fun j v hv=>?_⟩
   have hj:=(List.getElem?_eq_some_iff.1 hv).1
   rw [flatten_len _ hlen] at hj
   simp only [List.length_map,List.length_range] at hj
   have hq:j / s < len:=Nat.div_lt_of_lt_mul (by rw [Nat.mul_comm];exact hj)
   have hm:j % s < s:=Nat.mod_lt _ hs
   have e:j=j / s*s+j % s:=by rw [Nat.mul_comm];exact (Nat.div_add_mod j s).symm
   have hc:=(World.cells?_some (h (j / s) hq)).2.2 (j % s) hm
   rw [add_add,<- e,Addr.add_mid] at hc
   rw [hc]
   have hg:=flatten_get ((List.range len).map R) (j / s) (j % s) hlen (by simpa using hq) hm
   rw [<- e] at hg
   rw [hg] at hv
   simpa using hv
section
variable {H:Type}{enc:TypeId×Value->H}{w:World}{base:Nat}{sp:Nat->Bool}{held:Bool}
theorem wf64 {z:Int}(h:(Lit.int .i64 z).wf=true):-9223372036854775808<=z/\z<=9223372036854775807:=by
 simp [Lit.wf,IntKind.min,IntKind.max,IntKind.signed,IntKind.bits] at h
 omega
theorem open_rows {α:Type} [Inhabited α] {t e:TypeId}{s bytes:Nat}(f:α->List Value) (ht:Tryz.prog.underlying t=some (.slice e)) (hc:Tryz.prog.cellsOf e=s) (hby:Tryz.prog.bytesOf e=bytes) (hs:0 < s) (hf:∀ (x:α),∀ u∈f x,u.oneCell'=true)
  (hop:∀ {fuel:Nat}{cs:List Value}{x:DataW H×List MemPlace},DataW.trod enc Tryz.prog w base sp held fuel e cs=some x->∃ p:α,cs=f p)
  {fuel:Nat}{cs:List Value}{x:DataW H×List MemPlace}(h:DataW.trod enc Tryz.prog w base sp held fuel t cs=some x) (hw:∀ q∈DataW.weights Tryz.prog t x.1,q<=reachBytes) :
  ∃ a m c,∃ T:List α,cs=[.slice a m c]/\T.length=m/\Inl w s (.slice a m c) (T.map f)/\m*bytes<=reachBytes:=by
 rcases open_slice ht h with ⟨rfl,rfl⟩ | ⟨a,len,cap,m,n,D,Pl,rfl,_,hl,hmx,hm,rfl,hx⟩
 ·exact ⟨none,0,0,[],rfl,rfl,⟨by simp,by simp,none,0,rfl,by simp,.inl rfl⟩,by simp⟩
 ·have hlm:len<=m:=by rw [hm];split <;> omega
  obtain ⟨F,hF⟩:=choose_lt (α:=α) (n:=len) (p:=fun i q=>w.cells? base (a.add (i*s)) s=some (f q)) (fun i hi=>by
   obtain ⟨cs',h1,h2⟩:=hx i (by omega)
   obtain ⟨q,rfl⟩:=hop h2
   rw [hc] at h1
   exact ⟨q,h1⟩)
  refine ⟨some a,len,cap,(List.range len).map F,rfl,by simp,?_,?_⟩
  ·rw [List.map_map]
   exact inl_of_cells (f ∘ F) hs (by omega) hF (fun i _=>hf (F i))
  ·have:=hw ((len+(m-len))*Tryz.prog.bytesOf e) (by
    simp only [DataW.weights,ht,List.length_map,List.length_range]
    exact List.mem_cons_self)
   rw [hby] at this
   refine Nat.le_trans (Nat.mul_le_mul_right _ (by omega)) this
theorem mem_each {P:Program}:∀ (ts:List TypeId) (ds:List (DataW H)) (i:Nat) (t:TypeId) (d:DataW H) (q:Nat),ts[i]? = some t->ds[i]? = some d->q∈DataW.weights P t d->q∈DataW.weightsEach P ts ds
 | [],_,i,t,d,q,h,_,_=>by simp at h
 | _ :: _,[],i,t,d,q,_,h,_=>by simp at h
 | t0 :: ts,d0 :: ds,0,t,d,q,h1,h2,h3=>by
  simp at h1 h2
  subst h1 h2
  simp only [DataW.weightsEach]
  exact List.mem_append_left _ h3
 | t0 :: ts,d0 :: ds,i+1,t,d,q,h1,h2,h3=>by
  simp at h1 h2
  simp only [DataW.weightsEach]
  exact List.mem_append_right _ (mem_each ts ds i t d q h1 h2 h3)
theorem mem_all {P:Program}{e:TypeId}:∀ (ds:List (DataW H)) (d:DataW H) (q:Nat),d∈ds->q∈DataW.weights P e d->q∈DataW.weightsAll P e ds
 | [],d,q,h,_=>by simp at h
 | d0 :: ds,d,q,h1,h2=>by
  simp only [DataW.weightsAll]
  rcases List.mem_cons.1 h1 with rfl | h1
  ·exact List.mem_append_left _ h2
  ·exact List.mem_append_right _ (mem_all ds d q h1 h2)
theorem one_int {fuel:Nat}{cs:List Value}{x:DataW H×List MemPlace}(h:DataW.trod enc Tryz.prog w base sp held fuel 2 cs=some x):∃ p:Int,cs=lnI p:=by
 obtain ⟨z,hz,_⟩:=DataW.trod_int Tryz.underlying2 h
 exact ⟨z,hz⟩
theorem i_one2 (p:Int):∀ u∈lnI p,u.oneCell'=true:=by
 intro u hu;simp [lnI] at hu;subst hu;rfl
end
theorem Tryz.own:ownKnob Tryz.prog.godebug=none:=by kernel_rfl
theorem Tryz.laidOut:laidOutB Tryz.prog=true:=by kernel_rfl
theorem Tryz.et:Tryz.prog.globalNamed "errors.errorType"=some 0:=by kernel_rfl
theorem Tryz.rt:(Tryz.prog.cutTypes.find? (·.1 == "internal/reflectlite.rtype")).map (·.2)=some 257:=by kernel_rfl
theorem Tryz.oneRow:((List.range 326).filter fun t=>Tryz.prog.rowNamed t [101,114,114,111,114])=[114]:=by kernel_rfl
theorem Tryz.sizeT:Tryz.prog.types.size=326:=by kernel_rfl
theorem handle_of_laid {W:World}(h:laidMetH Tryz.prog Rows.bootsRow.laid W):Gl W:=by
 have h':laidMet Tryz.prog [("math/bits.deBruijn32tab",Rows.laid_math_bits_deBruijn32tab),("math/bits.deBruijn64tab",Rows.laid_math_bits_deBruijn64tab),("internal/strconv.uint64pow10",Rows.laid_internal_strconv_uint64pow10)] W/\handlesMet Tryz.prog [("errors.errorType",Rows.laid_errors_errorType)] W:=h
 obtain ⟨name,u,ty,e1,e2,e3,e4,e5⟩:=h'.2 _ (List.mem_singleton.2 rfl)
 have en:name=[101,114,114,111,114]:=(Option.some.inj e1).symm
 subst en
 obtain rfl:=Option.some.inj (Tryz.rt.symm.trans e2)
 have hm:ty∈(List.range 326).filter fun t=>Tryz.prog.rowNamed t [101,114,114,111,114]:=List.mem_filter.2 ⟨List.mem_range.2 (by rw [<- Tryz.sizeT];exact e3),e4⟩
 rw [Tryz.oneRow] at hm
 obtain rfl:=List.mem_singleton.1 hm
 have hh:typeHandle Tryz.prog 114=.pointer (some ⟨4,114,none⟩):=by kernel_rfl
 rw [hh] at e5
 unfold Gl
 simpa using World.var?_cell Tryz.et e5 0
theorem laid_met (os:Os) (args:Array Value):laidMetH Tryz.prog Rows.bootsRow.laid ((World.doorLaid Tryz.prog 200 os).forCall (fun _ _=>0) ⟨#[],args,[]⟩).memory:=
 laidMetH_of_parts (laidMet_of_run' 8 (by kernel_rfl) (by kernel_rfl)) (by kernel_rfl)
end Go.Proofs.YteejjgbeknnmeaaGreatDoor
