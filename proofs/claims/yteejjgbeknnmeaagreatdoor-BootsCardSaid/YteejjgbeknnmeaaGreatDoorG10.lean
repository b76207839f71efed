import Derived.Test.YteejjgbeknnmeaaGreatDoorRows
import Derived.Test.YteejjgbeknnmeaaGreatDoorG01
import Derived.LaidEql
import Derived.Stop.Asserts
import Derived.RowKitTokens
import Derived.Test.YteejjgbeknnmeaaGreatDoorG09
set_option maxRecDepth 100000
set_option maxHeartbeats 20000000
namespace Go.Proofs.YteejjgbeknnmeaaGreatDoor
open Go.RowKit Go.Extern.Stop Go.Stop Go.Extern
theorem Tryz.valueOf157 (t:Addr) (w:World):(ReflectliteValue.unpack (.iface 162 (.pointer (some t)))).run Tryz.prog w
  = .ok (.agg #[.pointer (some ⟨4,162,none⟩),.pointer (some ⟨w.heap.size,0,none⟩),.int .u64 150]) (w.alloc (.cells #[.pointer (some t)] 162)):=by kernel_rfl
theorem Tryz.type157 (a:Addr) (w:World):(ReflectliteValue.methodAny (ReflectliteValue.valueError "reflectlite.Value.Type" 0) (fun t _ _ _=>ReflectliteType.toType t) #[.agg #[.pointer (some ⟨4,162,none⟩),.pointer (some a),.int .u64 150]]).run Tryz.prog w
  = .ok (.iface 257 (.agg #[.pointer (some ⟨4,162,none⟩)])) w:=by kernel_rfl
theorem Tryz.methodKind (h:Value) (w:World):(Go.method 426 257 (.agg #[h]) "Kind").run Tryz.prog w=.ok (204,h) w:=by kernel_rfl
theorem Tryz.kind157 (w:World):((ReflectliteType.abiMethod fun t=>(fun a:Nat=>Value.int IntKind.u8 (a:Int)) <$> Rtype.kind t) #[.pointer (some ⟨4,162,none⟩)]).run Tryz.prog w=.ok (.int .u8 22) w:=by kernel_rfl
theorem Tryz.kind155 (w:World):((ReflectliteType.abiMethod fun t=>(fun a:Nat=>Value.int IntKind.u8 (a:Int)) <$> Rtype.kind t) #[.pointer (some ⟨4,160,none⟩)]).run Tryz.prog w=.ok (.int .u8 25) w:=by kernel_rfl
theorem rlm (z:Sem Value) (f:TypeId->Addr->Nat->Nat->Sem Value) (v:Value) :
  ReflectliteValue.method z f #[v]=(do match <- ReflectliteValue.parts v with | none=>z | some (t,a,fl)=>f t a fl (fl % 32)):=rfl
theorem Tryz.parts157 (a:Addr) (w:World):(ReflectliteValue.parts (.agg #[.pointer (some ⟨4,162,none⟩),.pointer (some a),.int .u64 150])).run Tryz.prog w=.ok (some (162,a,150)) w:=by kernel_rfl
theorem Tryz.isNil157 (a p:Addr) (W:World) (ha:W.cell? a=some (.pointer (some p))) :
  (ReflectliteValue.method (ReflectliteValue.valueError "reflectlite.Value.IsNil" 0) ReflectliteValue.isNil #[.agg #[.pointer (some ⟨4,162,none⟩),.pointer (some a),.int .u64 150]]).run Tryz.prog W=.ok (.bool false) W:=by
 rw [rlm]
 simp only [Sem.run_bind,Tryz.parts157,Result.andThen]
 simp [ReflectliteValue.isNil,loadVar,isAgg,underlying,Tryz.underlying162,ha,Result.andThen]
theorem Tryz.methodElem (h:Value) (w:World):(Go.method 426 257 (.agg #[h]) "Elem").run Tryz.prog w=.ok (216,.agg #[h]) w:=by kernel_rfl
theorem Tryz.methodImplements (h:Value) (w:World):(Go.method 426 257 (.agg #[h]) "Implements").run Tryz.prog w=.ok (217,.agg #[h]) w:=by kernel_rfl
theorem Tryz.methodAssignableTo (h:Value) (w:World):(Go.method 426 257 (.agg #[h]) "AssignableTo").run Tryz.prog w=.ok (214,.agg #[h]) w:=by kernel_rfl
theorem Tryz.methodUnwrap (v:Value) (w:World):(Go.method 426 166 v "Unwrap").run Tryz.prog w=.ok (209,v) w:=by kernel_rfl
theorem Tryz.elem157 (w:World):(ReflectliteType.method ReflectliteType.elem #[.agg #[.pointer (some ⟨4,162,none⟩)]]).run Tryz.prog w=.ok (.iface 257 (.agg #[.pointer (some ⟨4,160,none⟩)])) w:=by kernel_rfl
theorem Tryz.implements155 (w:World):(ReflectliteType.relation "Implements" ReflectliteType.implements_ #[.agg #[.pointer (some ⟨4,160,none⟩)],.iface 257 (.agg #[.pointer (some ⟨4,114,none⟩)])]).run Tryz.prog w=.ok (.bool true) w:=by kernel_rfl
theorem Tryz.typeOf155 (v:Value) (w:World):(ReflectliteType.typeOf #[.iface 160 v]).run Tryz.prog w=.ok (.iface 257 (.agg #[.pointer (some ⟨4,160,none⟩)])) w:=by kernel_rfl
theorem Tryz.typeOf153 (v:Value) (w:World):(ReflectliteType.typeOf #[.iface 166 v]).run Tryz.prog w=.ok (.iface 257 (.agg #[.pointer (some ⟨4,166,none⟩)])) w:=by kernel_rfl
theorem Tryz.assignable155 (w:World):(ReflectliteType.relation "AssignableTo" ReflectliteType.assignableTo #[.agg #[.pointer (some ⟨4,160,none⟩)],.iface 257 (.agg #[.pointer (some ⟨4,160,none⟩)])]).run Tryz.prog w=.ok (.bool true) w:=by kernel_rfl
theorem Tryz.assignable153 (w:World):(ReflectliteType.relation "AssignableTo" ReflectliteType.assignableTo #[.agg #[.pointer (some ⟨4,166,none⟩)],.iface 257 (.agg #[.pointer (some ⟨4,160,none⟩)])]).run Tryz.prog w=.ok (.bool false) w:=by kernel_rfl
theorem Tryz.valueOf155 (c:Int) (w:World):(ReflectliteValue.unpack (.iface 160 (.agg #[.int .i64 c]))).run Tryz.prog w
  = .ok (.agg #[.pointer (some ⟨4,160,none⟩),.pointer (some ⟨w.heap.size,0,none⟩),.int .u64 153]) (w.alloc (.cells #[.int .i64 c] 160)):=by kernel_rfl
theorem Tryz.elemOf157 (w:World):(Rtype.elem? 162).run Tryz.prog w=.ok (some 160) w:=by kernel_rfl
theorem Tryz.mk155 (p:Addr) (w:World):(ReflectliteValue.mk 160 p ReflectliteValue.flagAddr).run Tryz.prog w=.ok (.agg #[.pointer (some ⟨4,160,none⟩),.pointer (some p),.int .u64 409]) w:=by kernel_rfl
theorem Tryz.elemV157 (a p:Addr) (W:World) (ha:W.cell? a=some (.pointer (some p))) :
  (ReflectliteValue.method (ReflectliteValue.valueError "reflectlite.Value.Elem" 0) ReflectliteValue.elem #[.agg #[.pointer (some ⟨4,162,none⟩),.pointer (some a),.int .u64 150]]).run Tryz.prog W
   = .ok (.agg #[.pointer (some ⟨4,160,none⟩),.pointer (some p),.int .u64 409]) W:=by
 rw [rlm]
 simp only [Sem.run_bind,Tryz.parts157,Result.andThen]
 simp [ReflectliteValue.elem,loadVar,isAgg,underlying,Tryz.underlying162,ha,Result.andThen,Tryz.elemOf157,Tryz.mk155]
theorem rls (v x:Value):ReflectliteValue.set #[v,x]=(do
  let (some (dst,a,fl),some (src,b,_)):=(<- ReflectliteValue.parts v,<- ReflectliteValue.parts x)
   | unsupported (.noEntry "extern/(internal/reflectlite.Value).Set.zeroValue")
  if fl / ReflectliteValue.flagAddr % 2 == 0 then unsupported (.noEntry "extern/(internal/reflectlite.Value).Set.unaddressable")
  let val <- loadVar src b
  if <- Rtype.directlyAssignable dst src then storeVar dst a val
  else if <- Rtype.implements dst src then
   if (<- Rtype.kind src) == 20 then
    match val with
    | .nilIface=>unsupported (.noEntry "extern/reflectlite: a nil value of one interface type handed on as a value of another")
    | _=>storeVar dst a val
   else storeVar dst a (.iface src val)
  else panicString ("reflectlite.Set: value of type " ++ (<- Rtype.spelt src) ++ " is not assignable to type " ++ (<- Rtype.spelt dst))
  pure (.tuple #[])):=rfl
theorem Tryz.parts155a (a:Addr) (w:World):(ReflectliteValue.parts (.agg #[.pointer (some ⟨4,160,none⟩),.pointer (some a),.int .u64 409])).run Tryz.prog w=.ok (some (160,a,409)) w:=by kernel_rfl
theorem Tryz.parts155 (a:Addr) (w:World):(ReflectliteValue.parts (.agg #[.pointer (some ⟨4,160,none⟩),.pointer (some a),.int .u64 153])).run Tryz.prog w=.ok (some (160,a,153)) w:=by kernel_rfl
theorem Tryz.direct155 (w:World):(Rtype.directlyAssignable 160 160).run Tryz.prog w=.ok true w:=by kernel_rfl
theorem Tryz.set155 (ta b:Addr) (c:Int) (old:Value) (W:World) (hb:W.cell? b=some (.int .i64 c)) (ht:W.cell? ta=some old) (hf:W.frozen? ta=false) :
  (ReflectliteValue.set #[.agg #[.pointer (some ⟨4,160,none⟩),.pointer (some ta),.int .u64 409],.agg #[.pointer (some ⟨4,160,none⟩),.pointer (some b),.int .u64 153]]).run Tryz.prog W
   = .ok (.tuple #[]) (W.setCell ta (.int .i64 c)):=by
 rw [rls]
 simp only [Sem.run_bind,Tryz.parts155a,Tryz.parts155,Result.andThen]
 simp [ReflectliteValue.flagAddr,loadVar,isAgg,underlying,Tryz.underlying160,hb,Result.andThen,Tryz.direct155,loadCells,loadCellsFrom,storeVar,Value.cells,storeCells,Addr.add]
 rw [run_store Tryz.prog W ta _ _ (by rfl)]
 simp [ht,hf]
open Go.RowKit Go.Extern.Stop Go.Stop Go.Extern
def Gl (w:World):Prop:=w.cell? ⟨0,0,none⟩=some (.iface 257 (.agg #[.pointer (some ⟨4,114,none⟩)]))
theorem Gl.lt {w:World}(h:Gl w):0 < w.heap.size:=block_lt_of_cell (a:=⟨0,0,none⟩) h
theorem Gl.alloc {w:World}(h:Gl w) (o:Obj):Gl (w.alloc o):=by
 unfold Gl;rw [World.cell?_alloc_lt _ _ ⟨0,0,none⟩ h.lt];exact h
theorem Gl.fr {S:Nat->Prop}{w w':World}(h:Gl w) (f:Fr S w w') (hs:¬ S 0):Gl w':=(f.cell (p:=⟨0,0,none⟩) h.lt hs).trans h
theorem Gl.below {w w':World}(h:Gl w) (f:Below w.heap.size w w'):Gl w':=h.fr (Fr.of_below f (fun _=>False)) (fun h=>h)
theorem Tryz.lacksAs153 (v:Value) (xT:TypeId) (w:World):(Instr.typeAssert (.iface 166 v) xT 262 true).run Tryz.prog w=.ok (.tuple #[.nilIface,.bool false]) w:=run_typeAssert_lacksB Tryz.underlying262 (by kernel_rfl) (by kernel_rfl) v xT w
theorem Tryz.hasUnwrap153 (v:Value) (xT:TypeId) (w:World):(Instr.typeAssert (.iface 166 v) xT 265 true).run Tryz.prog w=.ok (.tuple #[.iface 166 v,.bool true]) w:=run_typeAssert_hasB Tryz.underlying265 (by kernel_rfl) v xT w
theorem number_nil (w:World):Calls Tryz.prog 45 #[.nilIface] w fun e w'=>e=.returned (.int .i64 0)/\Below w.heap.size w w':=by
 go_enter Tryz.func45,Tryz.ntmps45
 go_wp2
 go_ret
 refine ⟨rfl,?_⟩
 repeat (first | exact Below.refl _ _ | refine Below.drew ?_ | refine Below.setCell ?_ (by simp <;> omega) _ | refine Below.alloc ?_ (by simp <;> omega) _)
theorem number_met1 (s:ByteArray) (c:Int) (w:World) (hg:Gl w):Calls Tryz.prog 45 #[.iface 166 (.agg #[.string s,.iface 160 (.agg #[.int .i64 c])])] w fun e w'=>e=.returned (.int .i64 c)/\Below w.heap.size w w':=by
 have h102:=@run_callFunc_extern Tryz.prog 126 _ (fun args=>ReflectliteValue.unpack (args.getD 0 (.tuple #[]))) Tryz.func126 (by kernel_rfl) (by kernel_rfl) (by kernel_rfl) (by kernel_rfl)
 have h103:=@run_callFunc_extern Tryz.prog 127 _ (ReflectliteValue.methodAny (ReflectliteValue.valueError "reflectlite.Value.Type" 0) (fun t _ _ _=>ReflectliteType.toType t)) Tryz.func127 (by kernel_rfl) (by kernel_rfl) (by kernel_rfl) (by kernel_rfl)
 have h104:=@run_callFunc_extern Tryz.prog 128 _ (ReflectliteValue.method (ReflectliteValue.valueError "reflectlite.Value.IsNil" 0) ReflectliteValue.isNil) Tryz.func128 (by kernel_rfl) (by kernel_rfl) (by kernel_rfl) (by kernel_rfl)
 have h152:=@run_callFunc_extern Tryz.prog 204 _ (ReflectliteType.abiMethod fun t=>do pure (.int .u8 (<- Rtype.kind t))) Tryz.func204 (by kernel_rfl) (by kernel_rfl) (by kernel_rfl) (by kernel_rfl)
 have h164:=@run_callFunc_extern Tryz.prog 216 _ (ReflectliteType.method ReflectliteType.elem) Tryz.func216 (by kernel_rfl) (by kernel_rfl) (by kernel_rfl) (by kernel_rfl)
 have h165:=@run_callFunc_extern Tryz.prog 217 _ (ReflectliteType.relation "Implements" ReflectliteType.implements_) Tryz.func217 (by kernel_rfl) (by kernel_rfl) (by kernel_rfl) (by kernel_rfl)
 have h118:=@run_callFunc_extern Tryz.prog 162 _ ReflectliteType.typeOf Tryz.func162 (by kernel_rfl) (by kernel_rfl) (by kernel_rfl) (by kernel_rfl)
 have h162:=@run_callFunc_extern Tryz.prog 214 _ (ReflectliteType.relation "AssignableTo" ReflectliteType.assignableTo) Tryz.func214 (by kernel_rfl) (by kernel_rfl) (by kernel_rfl) (by kernel_rfl)
 have h119:=@run_callFunc_extern Tryz.prog 163 _ (ReflectliteValue.method (ReflectliteValue.valueError "reflectlite.Value.Elem" 0) ReflectliteValue.elem) Tryz.func163 (by kernel_rfl) (by kernel_rfl) (by kernel_rfl) (by kernel_rfl)
 have h120:=@run_callFunc_extern Tryz.prog 164 _ ReflectliteValue.set Tryz.func164 (by kernel_rfl) (by kernel_rfl) (by kernel_rfl) (by kernel_rfl)
 have tO:=Tryz.typeOf155
 have tO3:=Tryz.typeOf153
 have mA:=Tryz.methodAssignableTo
 have mU:=Tryz.methodUnwrap
 have a5:=Tryz.assignable155
 have a3:=Tryz.assignable153
 have v5:=Tryz.valueOf155
 have f6:=Tryz.valueOf157
 have f7:=Tryz.type157
 have mK:=Tryz.methodKind
 have mE:=Tryz.methodElem
 have mI:=Tryz.methodImplements
 have k7:=Tryz.kind157
 have k5:=Tryz.kind155
 have e7:=Tryz.elem157
 have i5:=Tryz.implements155
 have lA:=Tryz.lacksAs153
 have hU:=Tryz.hasUnwrap153
 have n8:=Tryz.isNil157 ⟨w.heap.size+1,0,none⟩ ⟨w.heap.size,0,none⟩ (((w.alloc (.cells #[.int .i64 0] 160)).alloc (.cells #[.pointer (some ⟨w.heap.size,0,none⟩)] 162)).alloc (.cells #[.pointer (some ⟨4,162,none⟩),.pointer (some ⟨w.heap.size+1,0,none⟩),.int .u64 150] 217)) (by rw [World.cell?_alloc_lt _ _ ⟨w.heap.size+1,0,none⟩ (by simp <;> omega)];rw [World.cell?_alloc_at _ _ _ _ (by simp <;> omega)];rfl)
 have hg2:(((w.alloc (.cells #[.int .i64 0] 160)).alloc (.cells #[.pointer (some ⟨w.heap.size,0,none⟩)] 162)).alloc (.cells #[.pointer (some ⟨4,162,none⟩),.pointer (some ⟨w.heap.size+1,0,none⟩),.int .u64 150] 217)).cell? ⟨0,0,none⟩=some (.iface 257 (.agg #[.pointer (some ⟨4,114,none⟩)])):=((hg.alloc _).alloc _).alloc _
 have el:=Tryz.elemV157 ⟨w.heap.size+1,0,none⟩ ⟨w.heap.size,0,none⟩ (((((w.alloc (.cells #[.int .i64 0] 160)).alloc (.cells #[.pointer (some ⟨w.heap.size,0,none⟩)] 162)).alloc (.cells #[.pointer (some ⟨4,162,none⟩),.pointer (some ⟨w.heap.size+1,0,none⟩),.int .u64 150] 217)).alloc (.cells #[.pointer (some ⟨4,162,none⟩),.pointer (some ⟨w.heap.size+1,0,none⟩),.int .u64 150] 217)).alloc (.cells #[.string s,.iface 160 (.agg #[.int .i64 c])] 166)) (by
  rw [World.cell?_alloc_lt _ _ ⟨w.heap.size+1,0,none⟩ (by simp <;> omega)];rw [World.cell?_alloc_lt _ _ ⟨w.heap.size+1,0,none⟩ (by simp <;> omega)];rw [World.cell?_alloc_lt _ _ ⟨w.heap.size+1,0,none⟩ (by simp <;> omega)]
  rw [World.cell?_alloc_at _ _ _ _ (by simp <;> omega)];rfl)
 have st:=Tryz.set155 ⟨w.heap.size,0,none⟩ ⟨w.heap.size+1+1+1+1+1,0,none⟩ c (.int .i64 0) ((((((w.alloc (.cells #[.int .i64 0] 160)).alloc (.cells #[.pointer (some ⟨w.heap.size,0,none⟩)] 162)).alloc (.cells #[.pointer (some ⟨4,162,none⟩),.pointer (some ⟨w.heap.size+1,0,none⟩),.int .u64 150] 217)).alloc (.cells #[.pointer (some ⟨4,162,none⟩),.pointer (some ⟨w.heap.size+1,0,none⟩),.int .u64 150] 217)).alloc (.cells #[.string s,.iface 160 (.agg #[.int .i64 c])] 166)).alloc (.cells #[.int .i64 c] 160))
  (by rw [World.cell?_alloc_at _ _ _ _ (by simp <;> omega)];rfl)
  (by rw [World.cell?_alloc_lt _ _ ⟨w.heap.size,0,none⟩ (by simp <;> omega)];rw [World.cell?_alloc_lt _ _ ⟨w.heap.size,0,none⟩ (by simp <;> omega)];rw [World.cell?_alloc_lt _ _ ⟨w.heap.size,0,none⟩ (by simp <;> omega)];rw [World.cell?_alloc_lt _ _ ⟨w.heap.size,0,none⟩ (by simp <;> omega)];rw [World.cell?_alloc_lt _ _ ⟨w.heap.size,0,none⟩ (by simp <;> omega)];rw [World.cell?_alloc_at _ _ _ _ (by simp <;> omega)];rfl)
  (by rw [World.frozen?_alloc_old _ _ ⟨w.heap.size,0,none⟩ (by simp <;> omega)];rw [World.frozen?_alloc_old _ _ ⟨w.heap.size,0,none⟩ (by simp <;> omega)];rw [World.frozen?_alloc_old _ _ ⟨w.heap.size,0,none⟩ (by simp <;> omega)];rw [World.frozen?_alloc_old _ _ ⟨w.heap.size,0,none⟩ (by simp <;> omega)];rw [World.frozen?_alloc_old _ _ ⟨w.heap.size,0,none⟩ (by simp <;> omega)];simp)
 go_enter Tryz.func45,Tryz.ntmps45
 go_wp2
 refine wp_loop_rounds 2 ?_
 rw [rounds_succ]
 go_wp2
 rw [rounds_succ]
 go_wp2
 go_ret
 refine ⟨rfl,?_⟩
 repeat (first | exact Below.refl _ _ | refine Below.drew ?_ | refine Below.setCell ?_ (by simp <;> omega) _ | refine Below.alloc ?_ (by simp <;> omega) _)
theorem number_met2 (s s2:ByteArray) (c:Int) (w:World) (hg:Gl w):Calls Tryz.prog 45 #[.iface 166 (.agg #[.string s,.iface 166 (.agg #[.string s2,.iface 160 (.agg #[.int .i64 c])])])] w fun e w'=>e=.returned (.int .i64 c)/\Below w.heap.size w w':=by
 have h102:=@run_callFunc_extern Tryz.prog 126 _ (fun args=>ReflectliteValue.unpack (args.getD 0 (.tuple #[]))) Tryz.func126 (by kernel_rfl) (by kernel_rfl) (by kernel_rfl) (by kernel_rfl)
 have h103:=@run_callFunc_extern Tryz.prog 127 _ (ReflectliteValue.methodAny (ReflectliteValue.valueError "reflectlite.Value.Type" 0) (fun t _ _ _=>ReflectliteType.toType t)) Tryz.func127 (by kernel_rfl) (by kernel_rfl) (by kernel_rfl) (by kernel_rfl)
 have h104:=@run_callFunc_extern Tryz.prog 128 _ (ReflectliteValue.method (ReflectliteValue.valueError "reflectlite.Value.IsNil" 0) ReflectliteValue.isNil) Tryz.func128 (by kernel_rfl) (by kernel_rfl) (by kernel_rfl) (by kernel_rfl)
 have h152:=@run_callFunc_extern Tryz.prog 204 _ (ReflectliteType.abiMethod fun t=>do pure (.int .u8 (<- Rtype.kind t))) Tryz.func204 (by kernel_rfl) (by kernel_rfl) (by kernel_rfl) (by kernel_rfl)
 have h164:=@run_callFunc_extern Tryz.prog 216 _ (ReflectliteType.method ReflectliteType.elem) Tryz.func216 (by kernel_rfl) (by kernel_rfl) (by kernel_rfl) (by kernel_rfl)
 have h165:=@run_callFunc_extern Tryz.prog 217 _ (ReflectliteType.relation "Implements" ReflectliteType.implements_) Tryz.func217 (by kernel_rfl) (by kernel_rfl) (by kernel_rfl) (by kernel_rfl)
 have h118:=@run_callFunc_extern Tryz.prog 162 _ ReflectliteType.typeOf Tryz.func162 (by kernel_rfl) (by kernel_rfl) (by kernel_rfl) (by kernel_rfl)
 have h162:=@run_callFunc_extern Tryz.prog 214 _ (ReflectliteType.relation "AssignableTo" ReflectliteType.assignableTo) Tryz.func214 (by kernel_rfl) (by kernel_rfl) (by kernel_rfl) (by kernel_rfl)
 have h119:=@run_callFunc_extern Tryz.prog 163 _ (ReflectliteValue.method (ReflectliteValue.valueError "reflectlite.Value.Elem" 0) ReflectliteValue.elem) Tryz.func163 (by kernel_rfl) (by kernel_rfl) (by kernel_rfl) (by kernel_rfl)
 have h120:=@run_callFunc_extern Tryz.prog 164 _ ReflectliteValue.set Tryz.func164 (by kernel_rfl) (by kernel_rfl) (by kernel_rfl) (by kernel_rfl)
 have tO:=Tryz.typeOf155
 have tO3:=Tryz.typeOf153
 have mA:=Tryz.methodAssignableTo
 have mU:=Tryz.methodUnwrap
 have a5:=Tryz.assignable155
 have a3:=Tryz.assignable153
 have v5:=Tryz.valueOf155
 have f6:=Tryz.valueOf157
 have f7:=Tryz.type157
 have mK:=Tryz.methodKind
 have mE:=Tryz.methodElem
 have mI:=Tryz.methodImplements
 have k7:=Tryz.kind157
 have k5:=Tryz.kind155
 have e7:=Tryz.elem157
 have i5:=Tryz.implements155
 have lA:=Tryz.lacksAs153
 have hU:=Tryz.hasUnwrap153
 have n8:=Tryz.isNil157 ⟨w.heap.size+1,0,none⟩ ⟨w.heap.size,0,none⟩ (((w.alloc (.cells #[.int .i64 0] 160)).alloc (.cells #[.pointer (some ⟨w.heap.size,0,none⟩)] 162)).alloc (.cells #[.pointer (some ⟨4,162,none⟩),.pointer (some ⟨w.heap.size+1,0,none⟩),.int .u64 150] 217)) (by rw [World.cell?_alloc_lt _ _ ⟨w.heap.size+1,0,none⟩ (by simp <;> omega)];rw [World.cell?_alloc_at _ _ _ _ (by simp <;> omega)];rfl)
 have hg2:(((w.alloc (.cells #[.int .i64 0] 160)).alloc (.cells #[.pointer (some ⟨w.heap.size,0,none⟩)] 162)).alloc (.cells #[.pointer (some ⟨4,162,none⟩),.pointer (some ⟨w.heap.size+1,0,none⟩),.int .u64 150] 217)).cell? ⟨0,0,none⟩=some (.iface 257 (.agg #[.pointer (some ⟨4,114,none⟩)])):=((hg.alloc _).alloc _).alloc _
 have el:=Tryz.elemV157 ⟨w.heap.size+1,0,none⟩ ⟨w.heap.size,0,none⟩ ((((((w.alloc (.cells #[.int .i64 0] 160)).alloc (.cells #[.pointer (some ⟨w.heap.size,0,none⟩)] 162)).alloc (.cells #[.pointer (some ⟨4,162,none⟩),.pointer (some ⟨w.heap.size+1,0,none⟩),.int .u64 150] 217)).alloc (.cells #[.pointer (some ⟨4,162,none⟩),.pointer (some ⟨w.heap.size+1,0,none⟩),.int .u64 150] 217)).alloc (.cells #[.string s,.iface 166 (.agg #[.string s2,.iface 160 (.agg #[.int .i64 c])])] 166)).alloc (.cells #[.string s2,.iface 160 (.agg #[.int .i64 c])] 166)) (by
  rw [World.cell?_alloc_lt _ _ ⟨w.heap.size+1,0,none⟩ (by simp <;> omega)];rw [World.cell?_alloc_lt _ _ ⟨w.heap.size+1,0,none⟩ (by simp <;> omega)];rw [World.cell?_alloc_lt _ _ ⟨w.heap.size+1,0,none⟩ (by simp <;> omega)];rw [World.cell?_alloc_lt _ _ ⟨w.heap.size+1,0,none⟩ (by simp <;> omega)]
  rw [World.cell?_alloc_at _ _ _ _ (by simp <;> omega)];rfl)
 have st:=Tryz.set155 ⟨w.heap.size,0,none⟩ ⟨w.heap.size+1+1+1+1+1+1,0,none⟩ c (.int .i64 0) (((((((w.alloc (.cells #[.int .i64 0] 160)).alloc (.cells #[.pointer (some ⟨w.heap.size,0,none⟩)] 162)).alloc (.cells #[.pointer (some ⟨4,162,none⟩),.pointer (some ⟨w.heap.size+1,0,none⟩),.int .u64 150] 217)).alloc (.cells #[.pointer (some ⟨4,162,none⟩),.pointer (some ⟨w.heap.size+1,0,none⟩),.int .u64 150] 217)).alloc (.cells #[.string s,.iface 166 (.agg #[.string s2,.iface 160 (.agg #[.int .i64 c])])] 166)).alloc (.cells #[.string s2,.iface 160 (.agg #[.int .i64 c])] 166)).alloc (.cells #[.int .i64 c] 160))
  (by rw [World.cell?_alloc_at _ _ _ _ (by simp <;> omega)];rfl)
  (by rw [World.cell?_alloc_lt _ _ ⟨w.heap.size,0,none⟩ (by simp <;> omega)];rw [World.cell?_alloc_lt _ _ ⟨w.heap.size,0,none⟩ (by simp <;> omega)];rw [World.cell?_alloc_lt _ _ ⟨w.heap.size,0,none⟩ (by simp <;> omega)];rw [World.cell?_alloc_lt _ _ ⟨w.heap.size,0,none⟩ (by simp <;> omega)];rw [World.cell?_alloc_lt _ _ ⟨w.heap.size,0,none⟩ (by simp <;> omega)];rw [World.cell?_alloc_lt _ _ ⟨w.heap.size,0,none⟩ (by simp <;> omega)];rw [World.cell?_alloc_at _ _ _ _ (by simp <;> omega)];rfl)
  (by rw [World.frozen?_alloc_old _ _ ⟨w.heap.size,0,none⟩ (by simp <;> omega)];rw [World.frozen?_alloc_old _ _ ⟨w.heap.size,0,none⟩ (by simp <;> omega)];rw [World.frozen?_alloc_old _ _ ⟨w.heap.size,0,none⟩ (by simp <;> omega)];rw [World.frozen?_alloc_old _ _ ⟨w.heap.size,0,none⟩ (by simp <;> omega)];rw [World.frozen?_alloc_old _ _ ⟨w.heap.size,0,none⟩ (by simp <;> omega)];rw [World.frozen?_alloc_old _ _ ⟨w.heap.size,0,none⟩ (by simp <;> omega)];simp)
 go_enter Tryz.func45,Tryz.ntmps45
 go_wp2
 refine wp_loop_rounds 3 ?_
 rw [rounds_succ]
 go_wp2
 rw [rounds_succ]
 go_wp2
 rw [rounds_succ]
 go_wp2
 go_ret
 refine ⟨rfl,?_⟩
 repeat (first | exact Below.refl _ _ | refine Below.drew ?_ | refine Below.setCell ?_ (by simp <;> omega) _ | refine Below.alloc ?_ (by simp <;> omega) _)
open Go.RowKit
structure Fns where
 current:Nat
 tick:Nat
 ipc:Nat
 yield:Nat
 load:Nat
 store:Nat
 unmap:Nat
 derive:Nat
 drop:Nat
def Left (Rep:World->Nat->(Nat->Prop)->RM->Prop) (x:Nat) (S:Nat->Prop) (K:RM) (w w':World):Prop:=(∃ S',Rep w' x S' K/\∀ b,S' b->S b\/w.heap.size<=b)/\Fr S w w'
def msV (m:Ms) (sa:Option Addr) (sc:Nat):Value:=.agg #[.int .i64 m.dst,.slice sa m.words.length sc,.int .i64 m.item,.int .i64 m.rt,.int .i64 m.frm,.int .i64 m.win,.int .i64 m.wait]
structure Runs (G:World->Prop) (f:Fns) (Rep:World->Nat->(Nat->Prop)->RM->Prop):Prop where
 kept:∀ {w w':World}{x:Nat}{S T:Nat->Prop}{K:RM},Rep w x S K->Fr T w w'->(∀ b,S b->¬ T b)->Rep w' x S K
 lt:∀ {w:World}{x:Nat}{S:Nat->Prop}{K:RM},Rep w x S K->∀ b,S b->b < w.heap.size
 current:∀ (x:Nat) (S:Nat->Prop) (K:RM) (n:Nat) (w:World),Rep w x S K->K.Ok n ->
  Calls Tryz.prog f.current #[.pointer (some ⟨x,0,none⟩)] w fun e w'=>e=.returned (.int .i64 K.cur)/\Below w.heap.size w w'
 tick:∀ (x:Nat) (S:Nat->Prop) (K:RM) (n:Nat) (w:World),Rep w x S K->K.Ok n->n<=1000000000000000 ->
  Calls Tryz.prog f.tick #[.pointer (some ⟨x,0,none⟩)] w fun e w'=>e=.returned (.tuple #[])/\Left Rep x S K.tick w w'
 ipc:∀ (x:Nat) (S:Nat->Prop) (K:RM) (n:Nat) (m:Ms) (sa:Option Addr) (sc:Nat) (w:World),G w->Rep w x S K->K.Ok n->n<=1000000000000000->Inl w 1 (.slice sa m.words.length sc) (m.words.map lnI)->(∀ k,inBlock (.slice sa m.words.length sc)=some k->¬ S k) ->
  Calls Tryz.prog f.ipc #[.pointer (some ⟨x,0,none⟩),msV m sa sc] w fun e w'=>e=.returned (.int .i64 (K.ipc m).1)/\Left Rep x S (K.ipc m).2 w w'
 yield:∀ (x:Nat) (S:Nat->Prop) (K:RM) (n:Nat) (w:World),G w->Rep w x S K->K.Ok n->n<=1000000000000000 ->
  Calls Tryz.prog f.yield #[.pointer (some ⟨x,0,none⟩)] w fun e w'=>e=.returned (.int .i64 K.yield.1)/\Left Rep x S K.yield.2 w w'
 load:∀ (x:Nat) (S:Nat->Prop) (K:RM) (n:Nat) (pg ce:Int) (w:World),G w->Rep w x S K->K.Ok n ->
  Calls Tryz.prog f.load #[.pointer (some ⟨x,0,none⟩),.int .i64 pg,.int .i64 ce] w fun e w'=>e=.returned (.tuple #[.int .i64 (K.load pg ce).1,.int .i64 (K.load pg ce).2])/\Below w.heap.size w w'
 store:∀ (x:Nat) (S:Nat->Prop) (K:RM) (n:Nat) (pg ce v:Int) (w:World),G w->Rep w x S K->K.Ok n ->
  Calls Tryz.prog f.store #[.pointer (some ⟨x,0,none⟩),.int .i64 pg,.int .i64 ce,.int .i64 v] w fun e w'=>e=.returned (.int .i64 (K.touch pg ce 2).2)/\Left Rep x S (K.stored pg ce v) w w'
 unmap:∀ (x:Nat) (S:Nat->Prop) (K:RM) (n:Nat) (pg:Int) (own:Bool) (w:World),G w->Rep w x S K->K.Ok n ->
  Calls Tryz.prog f.unmap #[.pointer (some ⟨x,0,none⟩),.int .i64 pg,.bool own] w fun e w'=>e=.returned (.int .i64 (K.unmap pg own).1)/\Left Rep x S (K.unmap pg own).2 w w'
 derive:∀ (x:Nat) (S:Nat->Prop) (K:RM) (n:Nat) (a b r:Int) (w:World),G w->Rep w x S K->K.Ok n ->
  Calls Tryz.prog f.derive #[.pointer (some ⟨x,0,none⟩),.int .i64 a,.int .i64 b,.int .i64 r] w fun e w'=>e=.returned (.int .i64 (K.derive a b r).1)/\Left Rep x S (K.derive a b r).2 w w'
 drop:∀ (x:Nat) (S:Nat->Prop) (K:RM) (n:Nat) (a:Int) (w:World),G w->Rep w x S K->K.Ok n ->
  Calls Tryz.prog f.drop #[.pointer (some ⟨x,0,none⟩),.int .i64 a] w fun e w'=>e=.returned (.int .i64 (K.drop a).1)/\Left Rep x S (K.drop a).2 w w'
def RefRep (w:World) (y:Nat) (S:Nat->Prop) (K:RM):Prop:=∃ vt vp vl sl,RmAt w y K vt vp vl sl/\S=RmOwn y vt vp vl sl
def refFns:Fns:=⟨59,60,63,64,65,66,67,68,69⟩
theorem Out.left {y:Nat}{K:RM}{vt vp vl vl':Value}{sl sl':List (Sv×Sv)}{w w':World}(h:Out y K vt vp vl sl w w' vl' sl'):Left RefRep y (RmOwn y vt vp vl sl) K w w':=by
 refine ⟨⟨_,⟨vt,vp,vl',sl',h.at_,rfl⟩,fun b hb=>?_⟩,h.fr.mono (fun k _ hk=>.inl hk)⟩
 rcases hb with (hb | hb | hb | hb) | hb
 ·exact .inl (.inl (.inl hb))
 ·exact .inl (.inl (.inr (.inl hb)))
 ·exact .inl (.inl (.inr (.inr (.inl hb))))
 ·rcases h.ov b hb with hb | hb
  ·exact .inl (.inl (.inr (.inr (.inr hb))))
  ·exact .inr hb
 ·rcases h.os b hb with hb | hb
  ·exact .inl (.inr hb)
  ·exact .inr hb
theorem leftP {y:Nat}{K:RM}{vt vp vp' vl:Value}{sl:List (Sv×Sv)}{w w':World}(h:RmAt w' y K vt vp' vl sl) (hf:Fr (Wr y vt vp vl) w w') (ho:∀ k,vp'.ownBlock=some k->vp.ownBlock=some k\/w.heap.size<=k):Left RefRep y (RmOwn y vt vp vl sl) K w w':=by
 refine ⟨⟨_,⟨vt,vp',vl,sl,h,rfl⟩,fun b hb=>?_⟩,hf.mono (fun k _ hk=>.inl hk)⟩
 rcases hb with (hb | hb | hb | hb) | hb
 ·exact .inl (.inl (.inl hb))
 ·exact .inl (.inl (.inr (.inl hb)))
 ·rcases ho b hb with hb | hb
  ·exact .inl (.inl (.inr (.inr (.inl hb))))
  ·exact .inr hb
 ·exact .inl (.inl (.inr (.inr (.inr hb))))
 ·exact .inl (.inr hb)
theorem RM.Ok.clock {K:RM}{n:Nat}(h:K.Ok n) (hn:n<=1000000000000000):K.clock<=4611686018427387904:=by have:=h.c1;omega
theorem RM.Ok.frs {K:RM}{n:Nat}(h:K.Ok n):∀ l∈K.leaves,0<=l.fr/\l.fr<=7:=fun l hl=>⟨(h.lf l hl).1,(h.lf l hl).2.1⟩
theorem refRuns:Runs (fun _=>True) refFns RefRep where
 kept:=by
  rintro w w' x S T K ⟨vt,vp,vl,sl,h,rfl⟩ hf hn
  exact ⟨vt,vp,vl,sl,h.kept hf hn,rfl⟩
 lt:=by
  rintro w x S K ⟨vt,vp,vl,sl,h,rfl⟩ b hb
  exact h.lt hb
 current:=by
  rintro x S K n w ⟨vt,vp,vl,sl,h,rfl⟩ ok
  exact rmCurrent_any x K vt vp vl sl w h ok.ft.six
 tick:=by
  rintro x S K n w ⟨vt,vp,vl,sl,h,rfl⟩ ok hn
  refine (rmTick_any x K vt vp vl sl w h ok.ft (ok.room (by omega)) ok.c0 (ok.clock hn)).mono ?_
  rintro e w' ⟨rfl,vl',sl',ho⟩
  exact ⟨rfl,ho.left⟩
 ipc:=by
  rintro x S K n m sa sc w _ ⟨vt,vp,vl,sl,h,rfl⟩ ok hn hI _
  refine (rmIpc_any x K vt vp vl sl m sa sc w h ok.ft hI ok.ap ok.oq (by have:=ok.bq;omega) (ok.room (by omega))).mono ?_
  rintro e w' ⟨rfl,vl',sl',ho⟩
  exact ⟨rfl,ho.left⟩
 yield:=by
  rintro x S K n w _ ⟨vt,vp,vl,sl,h,rfl⟩ ok hn
  refine (rmYield_any x K vt vp vl sl w h ok.ft (ok.room (by omega))).mono ?_
  rintro e w' ⟨rfl,vl',sl',ho⟩
  exact ⟨rfl,ho.left⟩
 load:=by
  rintro x S K n pg ce w _ ⟨vt,vp,vl,sl,h,rfl⟩ ok
  exact rmLoad_any x K vt vp vl sl pg ce w h ok.ft ok.frs
 store:=by
  rintro x S K n pg ce v w _ ⟨vt,vp,vl,sl,h,rfl⟩ ok
  refine (rmStore_any x K vt vp vl sl pg ce v w h ok.ft ok.frs).mono ?_
  rintro e w' ⟨rfl,h1,h2⟩
  exact ⟨rfl,leftP h1 h2 (fun k hk=>.inl hk)⟩
 unmap:=by
  rintro x S K n pg own w _ ⟨vt,vp,vl,sl,h,rfl⟩ ok
  refine (rmUnmap_any x K vt vp vl sl pg own w h ok.ft).mono ?_
  rintro e w' ⟨rfl,vl',sl',ho⟩
  exact ⟨rfl,ho.left⟩
 derive:=by
  rintro x S K n a b r w _ ⟨vt,vp,vl,sl,h,rfl⟩ ok
  refine (rmDerive_any x K vt vp vl sl a b r w h ok.ft (by have:=ok.bq;omega) ok.ap (fun i p hp=>⟨(ok.oq i p hp).2.2.2.2.2.2.1,(ok.oq i p hp).2.2.2.2.2.2.2⟩)).mono ?_
  rintro e w' ⟨vp',rfl,h1,h2,h3⟩
  exact ⟨rfl,leftP h1 h2 h3⟩
 drop:=by
  rintro x S K n a w _ ⟨vt,vp,vl,sl,h,rfl⟩ ok
  refine (rmDrop_any x K vt vp vl sl a w h ok.ft (by have:=ok.bq;omega) ok.ap).mono ?_
  rintro e w' ⟨vp',rfl,h1,h2,h3⟩
  exact ⟨rfl,leftP h1 h2 h3⟩
theorem refNewM_yes (sp:Int) (vT vP vL:Value) (T:List (Int×Int)) (Q L:List (Int×Int×Int×Int)) (w:World) (iT:Inl w 2 vT (T.map tRow)) (iP:Inl w 4 vP (Q.map qRow)) (iL:Inl w 4 vL (L.map qRow)) (hf:Fits sp T Q L) :
  Calls Tryz.prog 58 #[.agg #[.int .i64 sp,vT,vP,vL]] w fun e w'=>∃ y S,e=.returned (.tuple #[.pointer (some ⟨y,0,none⟩),.int .i64 0])/\RefRep w' y S (RK.new sp T Q L).up/\Below w.heap.size w w'/\∀ b,S b->w.heap.size<=b:=by
 have hs:=hf.1.2
 have b1:=q18 (sp:=sp) hs hf.2.2.2.1 hf.2.2.2.2.1
 have b2:=q18 (sp:=sp) hs hf.2.2.2.2.2.1 hf.2.2.2.2.2.2
 refine (refNew_yes sp vT vP vL T Q L w iT iP iL hf (by omega) (by omega)).mono ?_
 rintro e w' ⟨y,vt,vp,vl,rfl,h,hb,hy,ho⟩
 refine ⟨y,_,rfl,⟨vt,vp,vl,_,h.up,rfl⟩,hb,fun k hk=>?_⟩
 rcases hk with (rfl | hk) | hk
 ·exact hy
 ·exact ho k hk
 ·exact absurd hk wdOwn_nil
theorem refLookM_yes (y:Nat) (S:Nat->Prop) (K:RM) (n:Nat) (t:Nat) (u:Th) (w:World) (h:RefRep w y S K) (ok:K.Ok n) (hu:K.threads[t]? = some u) :
  Calls Tryz.prog 109 #[.pointer (some ⟨y,0,none⟩),.int .i64 t] w fun e w'=>∃ v,e=.returned (.tuple #[.agg #[.int .i64 u.st,.int .i64 u.code,.int .i64 u.who,v,.int .i64 u.got],.int .i64 0])/\Inl w' 1 v (u.ws.map lnI)/\Below w.heap.size w w':=by
 obtain ⟨vt,vp,vl,sl,h,rfl⟩:=h
 obtain ⟨s,hs⟩:=h.sl_get hu
 refine (rmLook_yes y K vt vp vl sl t u s w h ok.ft.six hu hs).mono ?_
 rintro e w' ⟨rfl,hb⟩
 exact ⟨_,rfl,(h.wd t u s hu hs).2.inl.below (by decide) hb,hb⟩
theorem refLookM_no (y:Nat) (S:Nat->Prop) (K:RM) (n:Nat) (t:Int) (w:World) (h:RefRep w y S K) (ok:K.Ok n) (ht:¬ (0<=t/\t < K.threads.length)) :
  Calls Tryz.prog 109 #[.pointer (some ⟨y,0,none⟩),.int .i64 t] w fun e w'=>e=.returned (.tuple #[.agg #[.int .i64 0,.int .i64 0,.int .i64 0,.slice none 0 0,.int .i64 0],.int .i64 3])/\Below w.heap.size w w':=by
 obtain ⟨vt,vp,vl,sl,h,rfl⟩:=h
 exact rmLook_no y K vt vp vl sl t w h ok.ft.six ht
theorem refSpaceM_no (y:Nat) (S:Nat->Prop) (K:RM) (n:Nat) (t:Int) (w:World) (h:RefRep w y S K) (ok:K.Ok n) (ht:¬ (0<=t/\t < K.sp)) :
  Calls Tryz.prog 112 #[.pointer (some ⟨y,0,none⟩),.int .i64 t] w fun e w'=>e=.returned (.tuple #[.agg #[.slice none 0 0,.slice none 0 0],.int .i64 3])/\Below w.heap.size w w':=by
 obtain ⟨vt,vp,vl,sl,h,rfl⟩:=h
 exact rmSpace_no y K vt vp vl sl t w h ok.ft.sp1 ok.ft.sp3 ht
theorem refSpaceM_yes (y:Nat) (S:Nat->Prop) (K:RM) (n:Nat) (t:Int) (w:World) (h:RefRep w y S K) (ok:K.Ok n) (t0:0<=t) (t1:t < K.sp) :
  Calls Tryz.prog 112 #[.pointer (some ⟨y,0,none⟩),.int .i64 t] w fun e w'=>∃ v u,e=.returned (.tuple #[.agg #[v,u],.int .i64 0])/\Sl w' 55 4 v ((told K.passes t 6).map qRow)/\Sl w' 67 4 u ((told (K.leaves.map quad) t 6).map qRow)/\Below w.heap.size w w' /\
   (∀ q,v.ownBlock=some q\/u.ownBlock=some q->w.heap.size<=q):=by
 obtain ⟨vt,vp,vl,sl,h,rfl⟩:=h
 exact rmSpace_yes y K vt vp vl sl t w h ok.ft.sp1 ok.ft.sp3 t0 t1 ok.ap ok.ft.ap (by have:=ok.bq;omega) (by have:=ok.ft.len;omega)
open Go.RowKit
def progFns:Fns:=⟨18,19,23,22,41,39,30,48,49⟩
structure ApM (Rep:World->Nat->(Nat->Prop)->RM->Prop):Prop extends Runs Gl progFns Rep where
 new_no:∀ (sp:Int) (vT vP vL:Value) (T:List (Int×Int)) (Q L:List (Int×Int×Int×Int)) (w:World),Gl w->Inl w 2 vT (T.map tRow)->Inl w 4 vP (Q.map qRow)->Inl w 4 vL (L.map qRow)->¬ Fits sp T Q L ->
  Calls Tryz.prog 42 #[.agg #[.int .i64 sp,vT,vP,vL]] w fun e w'=>e=.returned (.tuple #[.pointer none,.int .i64 1])/\Below w.heap.size w w'
 new_yes:∀ (sp:Int) (vT vP vL:Value) (T:List (Int×Int)) (Q L:List (Int×Int×Int×Int)) (w:World),Inl w 2 vT (T.map tRow)->Inl w 4 vP (Q.map qRow)->Inl w 4 vL (L.map qRow)->Fits sp T Q L ->
  Calls Tryz.prog 42 #[.agg #[.int .i64 sp,vT,vP,vL]] w fun e w'=>∃ x S,e=.returned (.tuple #[.pointer (some ⟨x,0,none⟩),.int .i64 0])/\Rep w' x S (RK.new sp T Q L).up/\Below w.heap.size w w'/\∀ b,S b->w.heap.size<=b
 look_no:∀ (x:Nat) (S:Nat->Prop) (K:RM) (n:Nat) (t:Int) (w:World),Gl w->Rep w x S K->K.Ok n->¬ (0<=t/\t < K.threads.length) ->
  Calls Tryz.prog 40 #[.pointer (some ⟨x,0,none⟩),.int .i64 t] w fun e w'=>∃ v,e=.returned (.tuple #[.agg #[.int .i64 0,.int .i64 0,.int .i64 0,v,.int .i64 0],.int .i64 3])/\Sl w' 2 1 v []/\Below w.heap.size w w'/\∀ b,v.ownBlock=some b->w.heap.size<=b
 look_yes:∀ (x:Nat) (S:Nat->Prop) (K:RM) (n:Nat) (t:Nat) (u:Th) (w:World),Rep w x S K->K.Ok n->K.threads[t]? = some u ->
  Calls Tryz.prog 40 #[.pointer (some ⟨x,0,none⟩),.int .i64 t] w fun e w'=>∃ v,e=.returned (.tuple #[.agg #[.int .i64 u.st,.int .i64 u.code,.int .i64 u.who,v,.int .i64 u.got],.int .i64 0])/\Sl w' 2 1 v (u.ws.map lnI)/\Below w.heap.size w w'/\∀ b,v.ownBlock=some b->w.heap.size<=b
 space_no:∀ (x:Nat) (S:Nat->Prop) (K:RM) (n:Nat) (t:Int) (w:World),Gl w->Rep w x S K->K.Ok n->¬ (0<=t/\t < K.sp) ->
  Calls Tryz.prog 52 #[.pointer (some ⟨x,0,none⟩),.int .i64 t] w fun e w'=>∃ v u,e=.returned (.tuple #[.agg #[v,u],.int .i64 3])/\Sl w' 55 4 v []/\Sl w' 67 4 u []/\Below w.heap.size w w'/\(∀ b,v.ownBlock=some b\/u.ownBlock=some b->w.heap.size<=b)/\∀ b,v.ownBlock=some b->u.ownBlock≠some b
 space_yes:∀ (x:Nat) (S:Nat->Prop) (K:RM) (n:Nat) (t:Int) (w:World),Rep w x S K->K.Ok n->0<=t->t < K.sp ->
  Calls Tryz.prog 52 #[.pointer (some ⟨x,0,none⟩),.int .i64 t] w fun e w'=>∃ v u,e=.returned (.tuple #[.agg #[v,u],.int .i64 0])/\Sl w' 55 4 v ((told K.passes t 6).map qRow)/\Sl w' 67 4 u ((told (K.leaves.map quad) t 6).map qRow)/\Below w.heap.size w w'/\(∀ b,v.ownBlock=some b\/u.ownBlock=some b->w.heap.size<=b)/\∀ b,v.ownBlock=some b->u.ownBlock≠some b
open Go.RowKit
theorem ex_le (s:ByteArray) (a b:Nat) (h:s.size<=1000):(s.extract a b).size<=1000:=by
 rw [ByteArray.size_extract]
 omega
theorem small_any (n:Nat) (h:n < 100) (w:World):Calls Tryz.prog 178 #[.int .i64 n] w fun e w'=>∃ s,e=.returned (.string s)/\s.size<=1000/\w'=w:=by
 by_cases h10:n < 10
 ·have d:decide ((n:Int) < 10)=true:=by simp;omega
  go_enter Tryz.func178,Tryz.ntmps178
  go_wp2
  go_ret
  exact ⟨_,rfl,ex_le _ _ _ (by decide),rfl⟩
 ·have d:decide ((n:Int) < 10)=false:=by simp;omega
  go_enter Tryz.func178,Tryz.ntmps178
  go_wp2
  go_ret
  exact ⟨_,rfl,ex_le _ _ _ (by decide),rfl⟩
theorem formatInt_any (n:Nat) (h:n < 100) (w:World):Calls Tryz.prog 176 #[.int .i64 n,.int .i64 10] w fun e w'=>∃ s,e=.returned (.string s)/\s.size<=1000/\w'=w:=by
 have d:decide ((0:Int)<=(n:Int))=true:=by simp
 have d2:decide ((n:Int) < 100)=true:=by simp;omega
 go_enter Tryz.func176,Tryz.ntmps176
 go_wp2_with (go_at_call 178;refine (small_any n h _).mono ?_;rintro e w1 ⟨s,rfl,hs,rfl⟩)
 go_ret
 exact ⟨_,rfl,hs,rfl⟩
theorem itoa2_any (n:Nat) (h:n < 100) (w:World):Calls Tryz.prog 173 #[.int .i64 n] w fun e w'=>∃ s,e=.returned (.string s)/\s.size<=1000/\w'=w:=by
 go_enter Tryz.func173,Tryz.ntmps173
 go_wp2_with (go_at_call 176;refine (formatInt_any n h _).mono ?_;rintro e w1 ⟨s,rfl,hs,rfl⟩)
 go_ret
 exact ⟨_,rfl,hs,rfl⟩
theorem itoa_any (n:Nat) (h:n < 100) (w:World):Calls Tryz.prog 170 #[.int .i64 n] w fun e w'=>∃ s,e=.returned (.string s)/\s.size<=1000/\w'=w:=by
 go_enter Tryz.func170,Tryz.ntmps170
 go_wp2_with (go_at_call 173;refine (itoa2_any n h _).mono ?_;rintro e w1 ⟨s,rfl,hs,rfl⟩)
 go_ret
 exact ⟨_,rfl,hs,rfl⟩
end Go.Proofs.YteejjgbeknnmeaaGreatDoor
