import Derived.Test.YteejjgbeknnmeaaGreatDoorRows
import Derived.Test.YteejjgbeknnmeaaGreatDoorH01
import Derived.LaidEql
import Derived.Stop.Asserts
import Derived.RowKitTokens
import Derived.Test.YteejjgbeknnmeaaGreatDoorH10
import Derived.Test.YteejjgbeknnmeaaGreatDoorH04
import Derived.Deep.QuietTactic
import Derived.BigQuiet
import Derived.Deep.MidRow
set_option maxRecDepth 100000
set_option maxHeartbeats 20000000
namespace Go.Proofs.YteejjgbeknnmeaaGreatDoor
open Go.RowKit Go.Extern.Stop Go.Stop Go.Extern
theorem Tryz.valueOf157 (t:Addr) (w:World):(ReflectliteValue.unpack (.iface 162 (.pointer (some t)))).run Tryz.prog w
  = .ok (.agg #[.pointer (some ⟨4,162,none⟩),.pointer (some ⟨w.heap.size,0,none⟩),.int .u64 150]) (w.alloc (.cells #[.pointer (some t)] 162)):=by kernel_rfl
theorem Tryz.type157 (a:Addr) (w:World):(ReflectliteValue.methodAny (ReflectliteValue.valueError "reflectlite.Value.Type" 0) (fun t _ _ _=>ReflectliteType.toType t) #[.agg #[.pointer (some ⟨4,162,none⟩),.pointer (some a),.int .u64 150]]).run Tryz.prog w
  = .ok (.iface 257 (.agg #[.pointer (some ⟨4,162,none⟩)])) w:=by kernel_rfl
theorem Tryz.methodKind (h:Value) (w:World):(Go.method 426 257 (.agg #[h]) "Kind").run Tryz.prog w=.ok (204,h) w:=by kernel_rfl
theorem Tryz.kind157 (w:World):((ReflectliteType.abiMethod fun t=>(fun a:Nat=>Value.int IntKind.u8 (a:Int)) <$> Rtype.kind t) #[.pointer (some ⟨4,162,none⟩)]).run Tryz.prog w=.ok (.int .u8 22) w:=by kernel_rfl
theorem Tryz.kind155 (w:World):((ReflectliteType.abiMethod fun t=>(fun a:Nat=>Value.int IntKind.u8 (a:Int)) <$> Rtype.kind t) #[.pointer (some ⟨4,160,none⟩)]).run Tryz.prog w=.ok (.int .u8 25) w:=by kernel_rfl
theorem rlm (z:Sem Value) (f:TypeId->Addr->Nat->Nat->Sem Value) (v:Value) :
  ReflectliteValue.method z f #[v]=(do match <- ReflectliteValue.parts v with | none=>z | some (t,a,fl)=>f t a fl (fl % 32)):=rfl
theorem Tryz.parts157 (a:Addr) (w:World):(ReflectliteValue.parts (.agg #[.pointer (some ⟨4,162,none⟩),.pointer (some a),.int .u64 150])).run Tryz.prog w=.ok (some (162,a,150)) w:=by kernel_rfl
theorem Tryz.isNil157 (a p:Addr) (W:World) (ha:W.cell? a=some (.pointer (some p))) :
  (ReflectliteValue.method (ReflectliteValue.valueError "reflectlite.Value.IsNil" 0) ReflectliteValue.isNil #[.agg #[.pointer (some ⟨4,162,none⟩),.pointer (some a),.int .u64 150]]).run Tryz.prog W=.ok (.bool false) W:=by
 rw [rlm]
 simp only [Sem.run_bind,Tryz.parts157,Result.andThen]
 simp [ReflectliteValue.isNil,loadVar,isAgg,underlying,Tryz.underlying162,ha,Result.andThen]
theorem Tryz.methodElem (h:Value) (w:World):(Go.method 426 257 (.agg #[h]) "Elem").run Tryz.prog w=.ok (216,.agg #[h]) w:=by kernel_rfl
theorem Tryz.methodImplements (h:Value) (w:World):(Go.method 426 257 (.agg #[h]) "Implements").run Tryz.prog w=.ok (217,.agg #[h]) w:=by kernel_rfl
theorem Tryz.methodAssignableTo (h:Value) (w:World):(Go.method 426 257 (.agg #[h]) "AssignableTo").run Tryz.prog w=.ok (214,.agg #[h]) w:=by kernel_rfl
theorem Tryz.methodUnwrap (v:Value) (w:World):(Go.method 426 166 v "Unwrap").run Tryz.prog w=.ok (209,v) w:=by kernel_rfl
theorem Tryz.elem157 (w:World):(ReflectliteType.method ReflectliteType.elem #[.agg #[.pointer (some ⟨4,162,none⟩)]]).run Tryz.prog w=.ok (.iface 257 (.agg #[.pointer (some ⟨4,160,none⟩)])) w:=by kernel_rfl
theorem Tryz.implements155 (w:World):(ReflectliteType.relation "Implements" ReflectliteType.implements_ #[.agg #[.pointer (some ⟨4,160,none⟩)],.iface 257 (.agg #[.pointer (some ⟨4,114,none⟩)])]).run Tryz.prog w=.ok (.bool true) w:=by kernel_rfl
theorem Tryz.typeOf155 (v:Value) (w:World):(ReflectliteType.typeOf #[.iface 160 v]).run Tryz.prog w=.ok (.iface 257 (.agg #[.pointer (some ⟨4,160,none⟩)])) w:=by kernel_rfl
theorem Tryz.typeOf153 (v:Value) (w:World):(ReflectliteType.typeOf #[.iface 166 v]).run Tryz.prog w=.ok (.iface 257 (.agg #[.pointer (some ⟨4,166,none⟩)])) w:=by kernel_rfl
theorem Tryz.assignable155 (w:World):(ReflectliteType.relation "AssignableTo" ReflectliteType.assignableTo #[.agg #[.pointer (some ⟨4,160,none⟩)],.iface 257 (.agg #[.pointer (some ⟨4,160,none⟩)])]).run Tryz.prog w=.ok (.bool true) w:=by kernel_rfl
theorem Tryz.assignable153 (w:World):(ReflectliteType.relation "AssignableTo" ReflectliteType.assignableTo #[.agg #[.pointer (some ⟨4,166,none⟩)],.iface 257 (.agg #[.pointer (some ⟨4,160,none⟩)])]).run Tryz.prog w=.ok (.bool false) w:=by kernel_rfl
theorem Tryz.valueOf155 (c:Int) (w:World):(ReflectliteValue.unpack (.iface 160 (.agg #[.int .i64 c]))).run Tryz.prog w
  = .ok (.agg #[.pointer (some ⟨4,160,none⟩),.pointer (some ⟨w.heap.size,0,none⟩),.int .u64 153]) (w.alloc (.cells #[.int .i64 c] 160)):=by kernel_rfl
theorem Tryz.elemOf157 (w:World):(Rtype.elem? 162).run Tryz.prog w=.ok (some 160) w:=by kernel_rfl
theorem Tryz.mk155 (p:Addr) (w:World):(ReflectliteValue.mk 160 p ReflectliteValue.flagAddr).run Tryz.prog w=.ok (.agg #[.pointer (some ⟨4,160,none⟩),.pointer (some p),.int .u64 409]) w:=by kernel_rfl
theorem Tryz.elemV157 (a p:Addr) (W:World) (ha:W.cell? a=some (.pointer (some p))) :
  (ReflectliteValue.method (ReflectliteValue.valueError "reflectlite.Value.Elem" 0) ReflectliteValue.elem #[.agg #[.pointer (some ⟨4,162,none⟩),.pointer (some a),.int .u64 150]]).run Tryz.prog W
   = .ok (.agg #[.pointer (some ⟨4,160,none⟩),.pointer (some p),.int .u64 409]) W:=by
 rw [rlm]
 simp only [Sem.run_bind,Tryz.parts157,Result.andThen]
 simp [ReflectliteValue.elem,loadVar,isAgg,underlying,Tryz.underlying162,ha,Result.andThen,Tryz.elemOf157,Tryz.mk155]
theorem rls (v x:Value):ReflectliteValue.set #[v,x]=(do
  let (some (dst,a,fl),some (src,b,_)):=(<- ReflectliteValue.parts v,<- ReflectliteValue.parts x)
   | unsupported (.noEntry "extern/(internal/reflectlite.Value).Set.zeroValue")
  if fl / ReflectliteValue.flagAddr % 2 == 0 then unsupported (.noEntry "extern/(internal/reflectlite.Value).Set.unaddressable")
  let val <- loadVar src b
  if <- Rtype.directlyAssignable dst src then storeVar dst a val
  else if <- Rtype.implements dst src then
   if (<- Rtype.kind src) == 20 then
    match val with
    | .nilIface=>unsupported (.noEntry "extern/reflectlite: a nil value of one interface type handed on as a value of another")
    | _=>storeVar dst a val
   else storeVar dst a (.iface src val)
  else panicString ("reflectlite.Set: value of type " ++ (<- Rtype.spelt src) ++ " is not assignable to type " ++ (<- Rtype.spelt dst))
  pure (.tuple #[])):=rfl
theorem Tryz.parts155a (a:Addr) (w:World):(ReflectliteValue.parts (.agg #[.pointer (some ⟨4,160,none⟩),.pointer (some a),.int .u64 409])).run Tryz.prog w=.ok (some (160,a,409)) w:=by kernel_rfl
theorem Tryz.parts155 (a:Addr) (w:World):(ReflectliteValue.parts (.agg #[.pointer (some ⟨4,160,none⟩),.pointer (some a),.int .u64 153])).run Tryz.prog w=.ok (some (160,a,153)) w:=by kernel_rfl
theorem Tryz.direct155 (w:World):(Rtype.directlyAssignable 160 160).run Tryz.prog w=.ok true w:=by kernel_rfl
theorem Tryz.set155 (ta b:Addr) (c:Int) (old:Value) (W:World) (hb:W.cell? b=some (.int .i64 c)) (ht:W.cell? ta=some old) (hf:W.frozen? ta=false) :
  (ReflectliteValue.set #[.agg #[.pointer (some ⟨4,160,none⟩),.pointer (some ta),.int .u64 409],.agg #[.pointer (some ⟨4,160,none⟩),.pointer (some b),.int .u64 153]]).run Tryz.prog W
   = .ok (.tuple #[]) (W.setCell ta (.int .i64 c)):=by
 rw [rls]
 simp only [Sem.run_bind,Tryz.parts155a,Tryz.parts155,Result.andThen]
 simp [ReflectliteValue.flagAddr,loadVar,isAgg,underlying,Tryz.underlying160,hb,Result.andThen,Tryz.direct155,loadCells,loadCellsFrom,storeVar,Value.cells,storeCells,Addr.add]
 rw [run_store Tryz.prog W ta _ _ (by rfl)]
 simp [ht,hf]
open Go.RowKit Go.Extern.Stop Go.Stop Go.Extern
def Gl (w:World):Prop:=w.cell? ⟨0,0,none⟩=some (.iface 257 (.agg #[.pointer (some ⟨4,114,none⟩)]))
theorem Gl.lt {w:World}(h:Gl w):0 < w.heap.size:=block_lt_of_cell (a:=⟨0,0,none⟩) h
theorem Gl.alloc {w:World}(h:Gl w) (o:Obj):Gl (w.alloc o):=by
 unfold Gl;rw [World.cell?_alloc_lt _ _ ⟨0,0,none⟩ h.lt];exact h
theorem Gl.fr {S:Nat->Prop}{w w':World}(h:Gl w) (f:Fr S w w') (hs:¬ S 0):Gl w':=(f.cell (p:=⟨0,0,none⟩) h.lt hs).trans h
theorem Gl.below {w w':World}(h:Gl w) (f:Below w.heap.size w w'):Gl w':=h.fr (Fr.of_below f (fun _=>False)) (fun h=>h)
theorem Tryz.lacksAs153 (v:Value) (xT:TypeId) (w:World):(Instr.typeAssert (.iface 166 v) xT 262 true).run Tryz.prog w=.ok (.tuple #[.nilIface,.bool false]) w:=run_typeAssert_lacksB Tryz.underlying262 (by kernel_rfl) (by kernel_rfl) v xT w
theorem Tryz.hasUnwrap153 (v:Value) (xT:TypeId) (w:World):(Instr.typeAssert (.iface 166 v) xT 265 true).run Tryz.prog w=.ok (.tuple #[.iface 166 v,.bool true]) w:=run_typeAssert_hasB Tryz.underlying265 (by kernel_rfl) v xT w
theorem number_nil (w:World):Calls Tryz.prog 45 #[.nilIface] w fun e w'=>e=.returned (.int .i64 0)/\Below w.heap.size w w':=by
 go_enter Tryz.func45,Tryz.ntmps45
 go_wp2
 go_ret
 refine ⟨rfl,?_⟩
 repeat (first | exact Below.refl _ _ | refine Below.drew ?_ | refine Below.setCell ?_ (by simp <;> omega) _ | refine Below.alloc ?_ (by simp <;> omega) _)
theorem number_met1 (s:ByteArray) (c:Int) (w:World) (hg:Gl w):Calls Tryz.prog 45 #[.iface 166 (.agg #[.string s,.iface 160 (.agg #[.int .i64 c])])] w fun e w'=>e=.returned (.int .i64 c)/\Below w.heap.size w w':=by
 have h102:=@run_callFunc_extern Tryz.prog 126 _ (fun args=>ReflectliteValue.unpack (args.getD 0 (.tuple #[]))) Tryz.func126 (by kernel_rfl) (by kernel_rfl) (by kernel_rfl) (by kernel_rfl)
 have h103:=@run_callFunc_extern Tryz.prog 127 _ (ReflectliteValue.methodAny (ReflectliteValue.valueError "reflectlite.Value.Type" 0) (fun t _ _ _=>ReflectliteType.toType t)) Tryz.func127 (by kernel_rfl) (by kernel_rfl) (by kernel_rfl) (by kernel_rfl)
 have h104:=@run_callFunc_extern Tryz.prog 128 _ (ReflectliteValue.method (ReflectliteValue.valueError "reflectlite.Value.IsNil" 0) ReflectliteValue.isNil) Tryz.func128 (by kernel_rfl) (by kernel_rfl) (by kernel_rfl) (by kernel_rfl)
 have h152:=@run_callFunc_extern Tryz.prog 204 _ (ReflectliteType.abiMethod fun t=>do pure (.int .u8 (<- Rtype.kind t))) Tryz.func204 (by kernel_rfl) (by kernel_rfl) (by kernel_rfl) (by kernel_rfl)
 have h164:=@run_callFunc_extern Tryz.prog 216 _ (ReflectliteType.method ReflectliteType.elem) Tryz.func216 (by kernel_rfl) (by kernel_rfl) (by kernel_rfl) (by kernel_rfl)
 have h165:=@run_callFunc_extern Tryz.prog 217 _ (ReflectliteType.relation "Implements" ReflectliteType.implements_) Tryz.func217 (by kernel_rfl) (by kernel_rfl) (by kernel_rfl) (by kernel_rfl)
 have h118:=@run_callFunc_extern Tryz.prog 162 _ ReflectliteType.typeOf Tryz.func162 (by kernel_rfl) (by kernel_rfl) (by kernel_rfl) (by kernel_rfl)
 have h162:=@run_callFunc_extern Tryz.prog 214 _ (ReflectliteType.relation "AssignableTo" ReflectliteType.assignableTo) Tryz.func214 (by kernel_rfl) (by kernel_rfl) (by kernel_rfl) (by kernel_rfl)
 have h119:=@run_callFunc_extern Tryz.prog 163 _ (ReflectliteValue.method (ReflectliteValue.valueError "reflectlite.Value.Elem" 0) ReflectliteValue.elem) Tryz.func163 (by kernel_rfl) (by kernel_rfl) (by kernel_rfl) (by kernel_rfl)
 have h120:=@run_callFunc_extern Tryz.prog 164 _ ReflectliteValue.set Tryz.func164 (by kernel_rfl) (by kernel_rfl) (by kernel_rfl) (by kernel_rfl)
 have tO:=Tryz.typeOf155
 have tO3:=Tryz.typeOf153
 have mA:=Tryz.methodAssignableTo
 have mU:=Tryz.methodUnwrap
 have a5:=Tryz.assignable155
 have a3:=Tryz.assignable153
 have v5:=Tryz.valueOf155
 have f6:=Tryz.valueOf157
 have f7:=Tryz.type157
 have mK:=Tryz.methodKind
 have mE:=Tryz.methodElem
 have mI:=Tryz.methodImplements
 have k7:=Tryz.kind157
 have k5:=Tryz.kind155
 have e7:=Tryz.elem157
 have i5:=Tryz.implements155
 have lA:=Tryz.lacksAs153
 have hU:=Tryz.hasUnwrap153
 have n8:=Tryz.isNil157 ⟨w.heap.size+1,0,none⟩ ⟨w.heap.size,0,none⟩ (((w.alloc (.cells #[.int .i64 0] 160)).alloc (.cells #[.pointer (some ⟨w.heap.size,0,none⟩)] 162)).alloc (.cells #[.pointer (some ⟨4,162,none⟩),.pointer (some ⟨w.heap.size+1,0,none⟩),.int .u64 150] 217)) (by rw [World.cell?_alloc_lt _ _ ⟨w.heap.size+1,0,none⟩ (by simp <;> omega)];rw [World.cell?_alloc_at _ _ _ _ (by simp <;> omega)];rfl)
 have hg2:(((w.alloc (.cells #[.int .i64 0] 160)).alloc (.cells #[.pointer (some ⟨w.heap.size,0,none⟩)] 162)).alloc (.cells #[.pointer (some ⟨4,162,none⟩),.pointer (some ⟨w.heap.size+1,0,none⟩),.int .u64 150] 217)).cell? ⟨0,0,none⟩=some (.iface 257 (.agg #[.pointer (some ⟨4,114,none⟩)])):=((hg.alloc _).alloc _).alloc _
 have el:=Tryz.elemV157 ⟨w.heap.size+1,0,none⟩ ⟨w.heap.size,0,none⟩ (((((w.alloc (.cells #[.int .i64 0] 160)).alloc (.cells #[.pointer (some ⟨w.heap.size,0,none⟩)] 162)).alloc (.cells #[.pointer (some ⟨4,162,none⟩),.pointer (some ⟨w.heap.size+1,0,none⟩),.int .u64 150] 217)).alloc (.cells #[.pointer (some ⟨4,162,none⟩),.pointer (some ⟨w.heap.size+1,0,none⟩),.int .u64 150] 217)).alloc (.cells #[.string s,.iface 160 (.agg #[.int .i64 c])] 166)) (by
  rw [World.cell?_alloc_lt _ _ ⟨w.heap.size+1,0,none⟩ (by simp <;> omega)];rw [World.cell?_alloc_lt _ _ ⟨w.heap.size+1,0,none⟩ (by simp <;> omega)];rw [World.cell?_alloc_lt _ _ ⟨w.heap.size+1,0,none⟩ (by simp <;> omega)]
  rw [World.cell?_alloc_at _ _ _ _ (by simp <;> omega)];rfl)
 have st:=Tryz.set155 ⟨w.heap.size,0,none⟩ ⟨w.heap.size+1+1+1+1+1,0,none⟩ c (.int .i64 0) ((((((w.alloc (.cells #[.int .i64 0] 160)).alloc (.cells #[.pointer (some ⟨w.heap.size,0,none⟩)] 162)).alloc (.cells #[.pointer (some ⟨4,162,none⟩),.pointer (some ⟨w.heap.size+1,0,none⟩),.int .u64 150] 217)).alloc (.cells #[.pointer (some ⟨4,162,none⟩),.pointer (some ⟨w.heap.size+1,0,none⟩),.int .u64 150] 217)).alloc (.cells #[.string s,.iface 160 (.agg #[.int .i64 c])] 166)).alloc (.cells #[.int .i64 c] 160))
  (by rw [World.cell?_alloc_at _ _ _ _ (by simp <;> omega)];rfl)
  (by rw [World.cell?_alloc_lt _ _ ⟨w.heap.size,0,none⟩ (by simp <;> omega)];rw [World.cell?_alloc_lt _ _ ⟨w.heap.size,0,none⟩ (by simp <;> omega)];rw [World.cell?_alloc_lt _ _ ⟨w.heap.size,0,none⟩ (by simp <;> omega)];rw [World.cell?_alloc_lt _ _ ⟨w.heap.size,0,none⟩ (by simp <;> omega)];rw [World.cell?_alloc_lt _ _ ⟨w.heap.size,0,none⟩ (by simp <;> omega)];rw [World.cell?_alloc_at _ _ _ _ (by simp <;> omega)];rfl)
  (by rw [World.frozen?_alloc_old _ _ ⟨w.heap.size,0,none⟩ (by simp <;> omega)];rw [World.frozen?_alloc_old _ _ ⟨w.heap.size,0,none⟩ (by simp <;> omega)];rw [World.frozen?_alloc_old _ _ ⟨w.heap.size,0,none⟩ (by simp <;> omega)];rw [World.frozen?_alloc_old _ _ ⟨w.heap.size,0,none⟩ (by simp <;> omega)];rw [World.frozen?_alloc_old _ _ ⟨w.heap.size,0,none⟩ (by simp <;> omega)];simp)
 go_enter Tryz.func45,Tryz.ntmps45
 go_wp2
 refine wp_loop_rounds 2 ?_
 rw [rounds_succ]
 go_wp2
 rw [rounds_succ]
 go_wp2
 go_ret
 refine ⟨rfl,?_⟩
 repeat (first | exact Below.refl _ _ | refine Below.drew ?_ | refine Below.setCell ?_ (by simp <;> omega) _ | refine Below.alloc ?_ (by simp <;> omega) _)
theorem number_met2 (s s2:ByteArray) (c:Int) (w:World) (hg:Gl w):Calls Tryz.prog 45 #[.iface 166 (.agg #[.string s,.iface 166 (.agg #[.string s2,.iface 160 (.agg #[.int .i64 c])])])] w fun e w'=>e=.returned (.int .i64 c)/\Below w.heap.size w w':=by
 have h102:=@run_callFunc_extern Tryz.prog 126 _ (fun args=>ReflectliteValue.unpack (args.getD 0 (.tuple #[]))) Tryz.func126 (by kernel_rfl) (by kernel_rfl) (by kernel_rfl) (by kernel_rfl)
 have h103:=@run_callFunc_extern Tryz.prog 127 _ (ReflectliteValue.methodAny (ReflectliteValue.valueError "reflectlite.Value.Type" 0) (fun t _ _ _=>ReflectliteType.toType t)) Tryz.func127 (by kernel_rfl) (by kernel_rfl) (by kernel_rfl) (by kernel_rfl)
 have h104:=@run_callFunc_extern Tryz.prog 128 _ (ReflectliteValue.method (ReflectliteValue.valueError "reflectlite.Value.IsNil" 0) ReflectliteValue.isNil) Tryz.func128 (by kernel_rfl) (by kernel_rfl) (by kernel_rfl) (by kernel_rfl)
 have h152:=@run_callFunc_extern Tryz.prog 204 _ (ReflectliteType.abiMethod fun t=>do pure (.int .u8 (<- Rtype.kind t))) Tryz.func204 (by kernel_rfl) (by kernel_rfl) (by kernel_rfl) (by kernel_rfl)
 have h164:=@run_callFunc_extern Tryz.prog 216 _ (ReflectliteType.method ReflectliteType.elem) Tryz.func216 (by kernel_rfl) (by kernel_rfl) (by kernel_rfl) (by kernel_rfl)
 have h165:=@run_callFunc_extern Tryz.prog 217 _ (ReflectliteType.relation "Implements" ReflectliteType.implements_) Tryz.func217 (by kernel_rfl) (by kernel_rfl) (by kernel_rfl) (by kernel_rfl)
 have h118:=@run_callFunc_extern Tryz.prog 162 _ ReflectliteType.typeOf Tryz.func162 (by kernel_rfl) (by kernel_rfl) (by kernel_rfl) (by kernel_rfl)
 have h162:=@run_callFunc_extern Tryz.prog 214 _ (ReflectliteType.relation "AssignableTo" ReflectliteType.assignableTo) Tryz.func214 (by kernel_rfl) (by kernel_rfl) (by kernel_rfl) (by kernel_rfl)
 have h119:=@run_callFunc_extern Tryz.prog 163 _ (ReflectliteValue.method (ReflectliteValue.valueError "reflectlite.Value.Elem" 0) ReflectliteValue.elem) Tryz.func163 (by kernel_rfl) (by kernel_rfl) (by kernel_rfl) (by kernel_rfl)
 have h120:=@run_callFunc_extern Tryz.prog 164 _ ReflectliteValue.set Tryz.func164 (by kernel_rfl) (by kernel_rfl) (by kernel_rfl) (by kernel_rfl)
 have tO:=Tryz.typeOf155
 have tO3:=Tryz.typeOf153
 have mA:=Tryz.methodAssignableTo
 have mU:=Tryz.methodUnwrap
 have a5:=Tryz.assignable155
 have a3:=Tryz.assignable153
 have v5:=Tryz.valueOf155
 have f6:=Tryz.valueOf157
 have f7:=Tryz.type157
 have mK:=Tryz.methodKind
 have mE:=Tryz.methodElem
 have mI:=Tryz.methodImplements
 have k7:=Tryz.kind157
 have k5:=Tryz.kind155
 have e7:=Tryz.elem157
 have i5:=Tryz.implements155
 have lA:=Tryz.lacksAs153
 have hU:=Tryz.hasUnwrap153
 have n8:=Tryz.isNil157 ⟨w.heap.size+1,0,none⟩ ⟨w.heap.size,0,none⟩ (((w.alloc (.cells #[.int .i64 0] 160)).alloc (.cells #[.pointer (some ⟨w.heap.size,0,none⟩)] 162)).alloc (.cells #[.pointer (some ⟨4,162,none⟩),.pointer (some ⟨w.heap.size+1,0,none⟩),.int .u64 150] 217)) (by rw [World.cell?_alloc_lt _ _ ⟨w.heap.size+1,0,none⟩ (by simp <;> omega)];rw [World.cell?_alloc_at _ _ _ _ (by simp <;> omega)];rfl)
 have hg2:(((w.alloc (.cells #[.int .i64 0] 160)).alloc (.cells #[.pointer (some ⟨w.heap.size,0,none⟩)] 162)).alloc (.cells #[.pointer (some ⟨4,162,none⟩),.pointer (some ⟨w.heap.size+1,0,none⟩),.int .u64 150] 217)).cell? ⟨0,0,none⟩=some (.iface 257 (.agg #[.pointer (some ⟨4,114,none⟩)])):=((hg.alloc _).alloc _).alloc _
 have el:=Tryz.elemV157 ⟨w.heap.size+1,0,none⟩ ⟨w.heap.size,0,none⟩ ((((((w.alloc (.cells #[.int .i64 0] 160)).alloc (.cells #[.pointer (some ⟨w.heap.size,0,none⟩)] 162)).alloc (.cells #[.pointer (some ⟨4,162,none⟩),.pointer (some ⟨w.heap.size+1,0,none⟩),.int .u64 150] 217)).alloc (.cells #[.pointer (some ⟨4,162,none⟩),.pointer (some ⟨w.heap.size+1,0,none⟩),.int .u64 150] 217)).alloc (.cells #[.string s,.iface 166 (.agg #[.string s2,.iface 160 (.agg #[.int .i64 c])])] 166)).alloc (.cells #[.string s2,.iface 160 (.agg #[.int .i64 c])] 166)) (by
  rw [World.cell?_alloc_lt _ _ ⟨w.heap.size+1,0,none⟩ (by simp <;> omega)];rw [World.cell?_alloc_lt _ _ ⟨w.heap.size+1,0,none⟩ (by simp <;> omega)];rw [World.cell?_alloc_lt _ _ ⟨w.heap.size+1,0,none⟩ (by simp <;> omega)];rw [World.cell?_alloc_lt _ _ ⟨w.heap.size+1,0,none⟩ (by simp <;> omega)]
  rw [World.cell?_alloc_at _ _ _ _ (by simp <;> omega)];rfl)
 have st:=Tryz.set155 ⟨w.heap.size,0,none⟩ ⟨w.heap.size+1+1+1+1+1+1,0,none⟩ c (.int .i64 0) (((((((w.alloc (.cells #[.int .i64 0] 160)).alloc (.cells #[.pointer (some ⟨w.heap.size,0,none⟩)] 162)).alloc (.cells #[.pointer (some ⟨4,162,none⟩),.pointer (some ⟨w.heap.size+1,0,none⟩),.int .u64 150] 217)).alloc (.cells #[.pointer (some ⟨4,162,none⟩),.pointer (some ⟨w.heap.size+1,0,none⟩),.int .u64 150] 217)).alloc (.cells #[.string s,.iface 166 (.agg #[.string s2,.iface 160 (.agg #[.int .i64 c])])] 166)).alloc (.cells #[.string s2,.iface 160 (.agg #[.int .i64 c])] 166)).alloc (.cells #[.int .i64 c] 160))
  (by rw [World.cell?_alloc_at _ _ _ _ (by simp <;> omega)];rfl)
  (by rw [World.cell?_alloc_lt _ _ ⟨w.heap.size,0,none⟩ (by simp <;> omega)];rw [World.cell?_alloc_lt _ _ ⟨w.heap.size,0,none⟩ (by simp <;> omega)];rw [World.cell?_alloc_lt _ _ ⟨w.heap.size,0,none⟩ (by simp <;> omega)];rw [World.cell?_alloc_lt _ _ ⟨w.heap.size,0,none⟩ (by simp <;> omega)];rw [World.cell?_alloc_lt _ _ ⟨w.heap.size,0,none⟩ (by simp <;> omega)];rw [World.cell?_alloc_lt _ _ ⟨w.heap.size,0,none⟩ (by simp <;> omega)];rw [World.cell?_alloc_at _ _ _ _ (by simp <;> omega)];rfl)
  (by rw [World.frozen?_alloc_old _ _ ⟨w.heap.size,0,none⟩ (by simp <;> omega)];rw [World.frozen?_alloc_old _ _ ⟨w.heap.size,0,none⟩ (by simp <;> omega)];rw [World.frozen?_alloc_old _ _ ⟨w.heap.size,0,none⟩ (by simp <;> omega)];rw [World.frozen?_alloc_old _ _ ⟨w.heap.size,0,none⟩ (by simp <;> omega)];rw [World.frozen?_alloc_old _ _ ⟨w.heap.size,0,none⟩ (by simp <;> omega)];rw [World.frozen?_alloc_old _ _ ⟨w.heap.size,0,none⟩ (by simp <;> omega)];simp)
 go_enter Tryz.func45,Tryz.ntmps45
 go_wp2
 refine wp_loop_rounds 3 ?_
 rw [rounds_succ]
 go_wp2
 rw [rounds_succ]
 go_wp2
 rw [rounds_succ]
 go_wp2
 go_ret
 refine ⟨rfl,?_⟩
 repeat (first | exact Below.refl _ _ | refine Below.drew ?_ | refine Below.setCell ?_ (by simp <;> omega) _ | refine Below.alloc ?_ (by simp <;> omega) _)
open Go.RowKit
structure Fns where
 current:Nat
 tick:Nat
 ipc:Nat
 yield:Nat
 load:Nat
 store:Nat
 unmap:Nat
 derive:Nat
 drop:Nat
def Left (Rep:World->Nat->(Nat->Prop)->RM->Prop) (x:Nat) (S:Nat->Prop) (K:RM) (w w':World):Prop:=(∃ S',Rep w' x S' K/\∀ b,S' b->S b\/w.heap.size<=b)/\Fr S w w'
def msV (m:Ms) (sa:Option Addr) (sc:Nat):Value:=.agg #[.int .i64 m.dst,.slice sa m.words.length sc,.int .i64 m.item,.int .i64 m.rt,.int .i64 m.frm,.int .i64 m.win,.int .i64 m.wait]
structure Runs (G:World->Prop) (f:Fns) (Rep:World->Nat->(Nat->Prop)->RM->Prop):Prop where
 kept:∀ {w w':World}{x:Nat}{S T:Nat->Prop}{K:RM},Rep w x S K->Fr T w w'->(∀ b,S b->¬ T b)->Rep w' x S K
 lt:∀ {w:World}{x:Nat}{S:Nat->Prop}{K:RM},Rep w x S K->∀ b,S b->b < w.heap.size
 current:∀ (x:Nat) (S:Nat->Prop) (K:RM) (n:Nat) (w:World),Rep w x S K->K.Ok n ->
  Calls Tryz.prog f.current #[.pointer (some ⟨x,0,none⟩)] w fun e w'=>e=.returned (.int .i64 K.cur)/\Below w.heap.size w w'
 tick:∀ (x:Nat) (S:Nat->Prop) (K:RM) (n:Nat) (w:World),Rep w x S K->K.Ok n->n<=1000000000000000 ->
  Calls Tryz.prog f.tick #[.pointer (some ⟨x,0,none⟩)] w fun e w'=>e=.returned (.tuple #[])/\Left Rep x S K.tick w w'
 ipc:∀ (x:Nat) (S:Nat->Prop) (K:RM) (n:Nat) (m:Ms) (sa:Option Addr) (sc:Nat) (w:World),G w->Rep w x S K->K.Ok n->n<=1000000000000000->Inl w 1 (.slice sa m.words.length sc) (m.words.map lnI)->(∀ k,inBlock (.slice sa m.words.length sc)=some k->¬ S k) ->
  Calls Tryz.prog f.ipc #[.pointer (some ⟨x,0,none⟩),msV m sa sc] w fun e w'=>e=.returned (.int .i64 (K.ipc m).1)/\Left Rep x S (K.ipc m).2 w w'
 yield:∀ (x:Nat) (S:Nat->Prop) (K:RM) (n:Nat) (w:World),G w->Rep w x S K->K.Ok n->n<=1000000000000000 ->
  Calls Tryz.prog f.yield #[.pointer (some ⟨x,0,none⟩)] w fun e w'=>e=.returned (.int .i64 K.yield.1)/\Left Rep x S K.yield.2 w w'
 load:∀ (x:Nat) (S:Nat->Prop) (K:RM) (n:Nat) (pg ce:Int) (w:World),G w->Rep w x S K->K.Ok n ->
  Calls Tryz.prog f.load #[.pointer (some ⟨x,0,none⟩),.int .i64 pg,.int .i64 ce] w fun e w'=>e=.returned (.tuple #[.int .i64 (K.load pg ce).1,.int .i64 (K.load pg ce).2])/\Below w.heap.size w w'
 store:∀ (x:Nat) (S:Nat->Prop) (K:RM) (n:Nat) (pg ce v:Int) (w:World),G w->Rep w x S K->K.Ok n ->
  Calls Tryz.prog f.store #[.pointer (some ⟨x,0,none⟩),.int .i64 pg,.int .i64 ce,.int .i64 v] w fun e w'=>e=.returned (.int .i64 (K.touch pg ce 2).2)/\Left Rep x S (K.stored pg ce v) w w'
 unmap:∀ (x:Nat) (S:Nat->Prop) (K:RM) (n:Nat) (pg:Int) (own:Bool) (w:World),G w->Rep w x S K->K.Ok n ->
  Calls Tryz.prog f.unmap #[.pointer (some ⟨x,0,none⟩),.int .i64 pg,.bool own] w fun e w'=>e=.returned (.int .i64 (K.unmap pg own).1)/\Left Rep x S (K.unmap pg own).2 w w'
 derive:∀ (x:Nat) (S:Nat->Prop) (K:RM) (n:Nat) (a b r:Int) (w:World),G w->Rep w x S K->K.Ok n ->
  Calls Tryz.prog f.derive #[.pointer (some ⟨x,0,none⟩),.int .i64 a,.int .i64 b,.int .i64 r] w fun e w'=>e=.returned (.int .i64 (K.derive a b r).1)/\Left Rep x S (K.derive a b r).2 w w'
 drop:∀ (x:Nat) (S:Nat->Prop) (K:RM) (n:Nat) (a:Int) (w:World),G w->Rep w x S K->K.Ok n ->
  Calls Tryz.prog f.drop #[.pointer (some ⟨x,0,none⟩),.int .i64 a] w fun e w'=>e=.returned (.int .i64 (K.drop a).1)/\Left Rep x S (K.drop a).2 w w'
open Go.RowKit
def progFns:Fns:=⟨18,19,23,22,41,39,30,48,49⟩
structure ApM (Rep:World->Nat->(Nat->Prop)->RM->Prop):Prop extends Runs Gl progFns Rep where
 new_no:∀ (sp:Int) (vT vP vL:Value) (T:List (Int×Int)) (Q L:List (Int×Int×Int×Int)) (w:World),Gl w->Inl w 2 vT (T.map tRow)->Inl w 4 vP (Q.map qRow)->Inl w 4 vL (L.map qRow)->¬ Fits sp T Q L ->
  Calls Tryz.prog 42 #[.agg #[.int .i64 sp,vT,vP,vL]] w fun e w'=>e=.returned (.tuple #[.pointer none,.int .i64 1])/\Below w.heap.size w w'
 new_yes:∀ (sp:Int) (vT vP vL:Value) (T:List (Int×Int)) (Q L:List (Int×Int×Int×Int)) (w:World),Inl w 2 vT (T.map tRow)->Inl w 4 vP (Q.map qRow)->Inl w 4 vL (L.map qRow)->Fits sp T Q L ->
  Calls Tryz.prog 42 #[.agg #[.int .i64 sp,vT,vP,vL]] w fun e w'=>∃ x S,e=.returned (.tuple #[.pointer (some ⟨x,0,none⟩),.int .i64 0])/\Rep w' x S (RK.new sp T Q L).up/\Below w.heap.size w w'/\∀ b,S b->w.heap.size<=b
 look_no:∀ (x:Nat) (S:Nat->Prop) (K:RM) (n:Nat) (t:Int) (w:World),Gl w->Rep w x S K->K.Ok n->¬ (0<=t/\t < K.threads.length) ->
  Calls Tryz.prog 40 #[.pointer (some ⟨x,0,none⟩),.int .i64 t] w fun e w'=>∃ v,e=.returned (.tuple #[.agg #[.int .i64 0,.int .i64 0,.int .i64 0,v,.int .i64 0],.int .i64 3])/\Sl w' 2 1 v []/\Below w.heap.size w w'/\∀ b,v.ownBlock=some b->w.heap.size<=b
 look_yes:∀ (x:Nat) (S:Nat->Prop) (K:RM) (n:Nat) (t:Nat) (u:Th) (w:World),Rep w x S K->K.Ok n->K.threads[t]? = some u ->
  Calls Tryz.prog 40 #[.pointer (some ⟨x,0,none⟩),.int .i64 t] w fun e w'=>∃ v,e=.returned (.tuple #[.agg #[.int .i64 u.st,.int .i64 u.code,.int .i64 u.who,v,.int .i64 u.got],.int .i64 0])/\Sl w' 2 1 v (u.ws.map lnI)/\Below w.heap.size w w'/\∀ b,v.ownBlock=some b->w.heap.size<=b
 space_no:∀ (x:Nat) (S:Nat->Prop) (K:RM) (n:Nat) (t:Int) (w:World),Gl w->Rep w x S K->K.Ok n->¬ (0<=t/\t < K.sp) ->
  Calls Tryz.prog 52 #[.pointer (some ⟨x,0,none⟩),.int .i64 t] w fun e w'=>∃ v u,e=.returned (.tuple #[.agg #[v,u],.int .i64 3])/\Sl w' 55 4 v []/\Sl w' 67 4 u []/\Below w.heap.size w w'/\(∀ b,v.ownBlock=some b\/u.ownBlock=some b->w.heap.size<=b)/\∀ b,v.ownBlock=some b->u.ownBlock≠some b
 space_yes:∀ (x:Nat) (S:Nat->Prop) (K:RM) (n:Nat) (t:Int) (w:World),Rep w x S K->K.Ok n->0<=t->t < K.sp ->
  Calls Tryz.prog 52 #[.pointer (some ⟨x,0,none⟩),.int .i64 t] w fun e w'=>∃ v u,e=.returned (.tuple #[.agg #[v,u],.int .i64 0])/\Sl w' 55 4 v ((told K.passes t 6).map qRow)/\Sl w' 67 4 u ((told (K.leaves.map quad) t 6).map qRow)/\Below w.heap.size w w'/\(∀ b,v.ownBlock=some b\/u.ownBlock=some b->w.heap.size<=b)/\∀ b,v.ownBlock=some b->u.ownBlock≠some b
open Go.RowKit
theorem pickK_any (c n:Int) (w:World) (c1:-9223372036854775808<=c) (c2:c<=9223372036854775807) (n1:0 < n) (n2:n<=9223372036854775807) :
  Calls Tryz.prog 16 #[.int .i64 c,.int .i64 n] w fun e w'=>e=.returned (.int .i64 (pickI c n))/\w'=w:=by
 have hb:(n == 0)=false:=beq_eq_false_iff_ne.2 (by omega)
 by_cases h:c < 0
 ·have e1:Hid ((-(c+1)).tmod n=pickI c n):=by
   unfold Hid pickI;rw [if_pos h,Int.tmod_eq_emod_of_nonneg (by omega)]
  go_enter Tryz.func16,Tryz.ntmps16
  go_wp2
  go_ret
  refine ⟨?_,rfl⟩
  have e2:-(c+1).tmod n=pickI c n:=by rw [<- e1.out,Int.neg_tmod]
  exact ret_int e2
 ·have e1:Hid (c % n=pickI c n):=by unfold Hid pickI;rw [if_neg h]
  go_enter Tryz.func16,Tryz.ntmps16
  go_wp2
  go_ret
  exact ⟨ret_int e1.out,rfl⟩
theorem pickI_in (c:Int){n:Int}(h:0 < n):0<=pickI c n/\pickI c n < n:=⟨Int.emod_nonneg _ (by omega),Int.emod_lt_of_pos _ h⟩
structure KS (Rep:World->Nat->(Nat->Prop)->RM->Prop) (W w:World) (x:Nat) (S:Nat->Prop) (K:RM) (n:Nat):Prop where
 rep:Rep w x S K
 new:∀ k,S k->W.heap.size<=k
 gl:Gl W
 bel:Below W.heap.size W w
 ok:K.Ok n
def KN (Rep:World->Nat->(Nat->Prop)->RM->Prop) (W w:World) (x:Nat) (S:Nat->Prop) (K:RM) (n:Nat) (w':World):Prop:=∃ S',KS Rep W w' x S' K n/\(∀ b,S' b->S b\/w.heap.size<=b)/\Fr S w w'
section
variable {Rep:World->Nat->(Nat->Prop)->RM->Prop}(A:ApM Rep){W w w':World}{x:Nat}{S:Nat->Prop}{K K':RM}{n:Nat}
theorem KS.glw (h:KS Rep W w x S K n):Gl w:=h.gl.below h.bel
theorem KS.mono (h:KS Rep W w x S K n){m:Nat}(hm:n<=m):KS Rep W w x S K m:=⟨h.rep,h.new,h.gl,h.bel,h.ok.mono hm⟩
include A
theorem KS.below (h:KS Rep W w x S K n) (hb:Below w.heap.size w w'):KS Rep W w' x S K n:=
 ⟨A.kept h.rep (Fr.of_below hb (fun _=>False)) (fun _ _ h=>h),h.new,h.gl,h.bel.trans (hb.mono h.bel.size),h.ok⟩
theorem KS.lt (h:KS Rep W w x S K n):∀ b,S b->b < w.heap.size:=A.lt h.rep
theorem KS.fr (h:KS Rep W w x S K n){T:Nat->Prop}(hf:Fr T w w') (hn:∀ b,S b->¬ T b) (h0:∀ b,T b->W.heap.size<=b):KS Rep W w' x S K n:=
 ⟨A.kept h.rep hf hn,h.new,h.gl,h.bel.trans (hf.to_below h.bel.size h0),h.ok⟩
omit A in
theorem KS.left (h:KS Rep W w x S K n) (L:Left Rep x S K' w w') (ok:K'.Ok (n+1)):KN Rep W w x S K' (n+1) w':=by
 obtain ⟨⟨S',h1,h2⟩,F⟩:=L
 refine ⟨S',⟨h1,fun k hk=>?_,h.gl,h.bel.trans (F.to_below h.bel.size h.new),ok⟩,h2,F⟩
 rcases h2 k hk with e | e
 ·exact h.new k e
 ·exact Nat.le_trans h.bel.size e
theorem ks_current (h:KS Rep W w x S K n):Calls Tryz.prog 18 #[.pointer (some ⟨x,0,none⟩)] w fun e w'=>e=.returned (.int .i64 K.cur)/\Below w.heap.size w w'/\KS Rep W w' x S K n:=
 (A.current x S K n w h.rep h.ok).mono (by rintro e w' ⟨rfl,b⟩;exact ⟨rfl,b,h.below A b⟩)
theorem ks_tick (h:KS Rep W w x S K n) (hn:n<=1000000000000000):Calls Tryz.prog 19 #[.pointer (some ⟨x,0,none⟩)] w fun e w'=>e=.returned (.tuple #[])/\KN Rep W w x S K.tick (n+1) w':=
 (A.tick x S K n w h.rep h.ok hn).mono (by rintro e w' ⟨rfl,L⟩;exact ⟨rfl,h.left L h.ok.tick⟩)
theorem ks_yield (h:KS Rep W w x S K n) (hn:n<=1000000000000000):Calls Tryz.prog 22 #[.pointer (some ⟨x,0,none⟩)] w fun e w'=>e=.returned (.int .i64 K.yield.1)/\KN Rep W w x S K.yield.2 (n+1) w':=
 (A.yield x S K n w h.glw h.rep h.ok hn).mono (by rintro e w' ⟨rfl,L⟩;exact ⟨rfl,h.left L h.ok.yield⟩)
theorem ks_ipc (h:KS Rep W w x S K n) (hn:n<=1000000000000000) (m:Ms) (sa:Option Addr) (sc:Nat) (hI:Inl w 1 (.slice sa m.words.length sc) (m.words.map lnI)) (hN:∀ k,inBlock (.slice sa m.words.length sc)=some k->¬ S k) :
  Calls Tryz.prog 23 #[.pointer (some ⟨x,0,none⟩),msV m sa sc] w fun e w'=>e=.returned (.int .i64 (K.ipc m).1)/\KN Rep W w x S (K.ipc m).2 (n+1) w':=
 (A.ipc x S K n m sa sc w h.glw h.rep h.ok hn hI hN).mono (by rintro e w' ⟨rfl,L⟩;exact ⟨rfl,h.left L (h.ok.ipc m)⟩)
theorem ks_load (h:KS Rep W w x S K n) (pg ce:Int):Calls Tryz.prog 41 #[.pointer (some ⟨x,0,none⟩),.int .i64 pg,.int .i64 ce] w fun e w'=>e=.returned (.tuple #[.int .i64 (K.load pg ce).1,.int .i64 (K.load pg ce).2])/\Below w.heap.size w w'/\KS Rep W w' x S K n:=
 (A.load x S K n pg ce w h.glw h.rep h.ok).mono (by rintro e w' ⟨rfl,b⟩;exact ⟨rfl,b,h.below A b⟩)
theorem ks_store (h:KS Rep W w x S K n) (pg ce v:Int):Calls Tryz.prog 39 #[.pointer (some ⟨x,0,none⟩),.int .i64 pg,.int .i64 ce,.int .i64 v] w fun e w'=>e=.returned (.int .i64 (K.touch pg ce 2).2)/\KN Rep W w x S (K.stored pg ce v) (n+1) w':=
 (A.store x S K n pg ce v w h.glw h.rep h.ok).mono (by rintro e w' ⟨rfl,L⟩;exact ⟨rfl,h.left L (h.ok.stored pg ce v)⟩)
theorem ks_look (h:KS Rep W w x S K n) (t:Nat) (u:Th) (hu:K.threads[t]? = some u):Calls Tryz.prog 40 #[.pointer (some ⟨x,0,none⟩),.int .i64 t] w fun e w'=>∃ a c,e=.returned (.tuple #[.agg #[.int .i64 u.st,.int .i64 u.code,.int .i64 u.who,.slice a u.ws.length c,.int .i64 u.got],.int .i64 0])/\Sl w' 2 1 (.slice a u.ws.length c) (u.ws.map lnI)/\Below w.heap.size w w'/\(∀ b,Value.ownBlock (.slice a u.ws.length c)=some b->w.heap.size<=b)/\KS Rep W w' x S K n:=
 (A.look_yes x S K n t u w h.rep h.ok hu).mono (by
  rintro e w' ⟨v,rfl,s,b,nb⟩
  obtain ⟨a,c,e⟩:=s.slice
  rw [List.length_map] at e
  subst e
  exact ⟨a,c,rfl,s,b,nb,h.below A b⟩)
end
section
variable {Rep:World->Nat->(Nat->Prop)->RM->Prop}(A:ApM Rep)
include A in
theorem boot_any (sp:Int) (aT aP aL:Option Addr) (mT mP mL cT cP cL:Nat) (T:List (Int×Int)) (Q L:List (Int×Int×Int×Int)) (w:World) (hg:Gl w) (iT:Inl w 2 (.slice aT mT cT) (T.map tRow)) (iP:Inl w 4 (.slice aP mP cP) (Q.map qRow)) (iL:Inl w 4 (.slice aL mL cL) (L.map qRow)) (hf:Fits sp T Q L) (n:Nat) :
  Calls Tryz.prog 17 #[.agg #[.int .i64 sp,.slice aT mT cT,.slice aP mP cP,.slice aL mL cL]] w fun e w'=>∃ x S,e=.returned (.pointer (some ⟨x,0,none⟩))/\KS Rep w w' x S (RK.new sp T Q L).up n/\Below w.heap.size w w':=by
 have hb:Below w.heap.size w (w.alloc (.cells #[.int .i64 sp,.slice aT mT cT,.slice aP mP cP,.slice aL mL cL] 32)):=(Below.refl _ w).alloc (Nat.le_refl _) _
 have C:=hid (A.new_yes sp _ _ _ T Q L _ (iT.below (by omega) hb) (iP.below (by omega) hb) (iL.below (by omega) hb) hf)
 have HB:=hid (And.intro hb (And.intro hg (new_okM hf n)))
 clear hb iT iP iL hg hf
 go_enter Tryz.func17,Tryz.ntmps17
 go_wp2_with (go_at_call 42;refine C.out.mono ?_;rintro e w2 ⟨x,S,rfl,R2,B2,N2⟩;have H2:=hid (And.intro R2 (And.intro B2 N2));clear R2 B2 N2)
 go_ret
 have bb:Below w.heap.size w w2:=HB.out.1.trans (H2.out.2.1.mono (by simp))
 exact ⟨x,S,rfl,⟨H2.out.1,fun k hk=>by have:=H2.out.2.2 k hk;simp at this;omega,HB.out.2.1,bb,HB.out.2.2⟩,bb⟩
abbrev c5 (st code who:Int) (a:Option Addr) (n c:Nat) (got:Int):Array Value:=#[.int .i64 st,.int .i64 code,.int .i64 who,.slice a n c,.int .i64 got]
theorem c5_one (st code who:Int) (a:Option Addr) (n c:Nat) (got:Int):(c5 st code who a n c got).all (·.oneCell')=true:=by simp [Value.oneCell']
include A in
theorem lookK_any {W w:World}{x:Nat}{S:Nat->Prop}{K:RM}{n:Nat}(h:KS Rep W w x S K n) (t:Nat) (u:Th) (hu:K.threads[t]? = some u) :
  Calls Tryz.prog 25 #[.pointer (some ⟨x,0,none⟩),.int .i64 t] w fun e w'=>∃ a c,e=.returned (.tuple #[.agg (c5 u.st u.code u.who a u.ws.length c u.got),.bool true])/\Sl w' 2 1 (.slice a u.ws.length c) (u.ws.map lnI)/\Below w.heap.size w w'/\(∀ b,Value.ownBlock (.slice a u.ws.length c)=some b->w.heap.size<=b)/\KS Rep W w' x S K n:=by
 have hb:Below w.heap.size w (w.alloc (.cells #[.int .i64 0,.int .i64 0,.int .i64 0,.slice none 0 0,.int .i64 0] 50)):=(Below.refl _ w).alloc (Nat.le_refl _) _
 have C:=hid (ks_look A (h.below A hb) t u hu)
 have HB:=hid (And.intro hb h)
 have HN:=hid (heap_alloc_new w (.cells #[.int .i64 0,.int .i64 0,.int .i64 0,.slice none 0 0,.int .i64 0] 50))
 obtain ⟨st,code,who,ws,got,hst⟩:∃ st code who ws got,u.st=st/\u.code=code/\u.who=who/\u.ws=ws/\u.got=got:=⟨_,_,_,_,_,rfl,rfl,rfl,rfl,rfl⟩
 obtain ⟨e1,e2,e3,e4,e5⟩:=hst
 rw [e1,e2,e3,e4,e5] at C
 rw [e1,e2,e3,e4,e5]
 obtain ⟨m,hm⟩:∃ m,ws.length=m:=⟨_,rfl⟩
 rw [hm] at C ⊢
 clear hb h hu e1 e2 e3 e4 e5 hm
 go_enter Tryz.func25,Tryz.ntmps25
 go_wp2_with (first
  | (go_at_call 40;refine C.out.mono ?_;rintro e w2 ⟨a,c,rfl,s2,b2,n2,k2⟩;have q2:=(b2.block w.heap.size (by simp)).trans HN.out;have q3:=(Below.heap_alloc w2 (.cells (c5 st code who a m c got) 50) w.heap.size (by have:=b2.size;simp at this;omega)).trans q2;have R2:Hid ((w2.alloc (.cells (c5 st code who a m c got) 50)).rangeAt w2.heap.size 0 (c5 st code who a m c got).toList):=(fun j v hv=>by rw [cell_of_row _ _ (0+j) _ _ _ (heap_alloc_new w2 _),Nat.zero_add,List.getElem?_toArray];exact hv);have H2:=hid (And.intro s2 (And.intro b2 (And.intro n2 (And.intro k2 q3))));clear s2 b2 n2 k2 q2 q3)
  | (with_reducible (show wpList _ _ _ (⟨_,.store 50 (.tmp 6) _,_,_,_,none⟩ :: _) _ _);go_must (refine wpList_store_new rfl 50 _ _ rfl w2 _ (c5 st code who a m c got) 50 (by simp [Act.eval]) rfl (by kernel_rfl) rfl (c5_one _ _ _ _ _ _ _) ?_))
  | (with_reducible (show wpList _ _ _ (⟨_,.load 50 _,_,_,_,none⟩ :: _) _ _);go_must (refine wpList_load_mid rfl 50 _ rfl w2.heap.size 0 rfl _ _ R2.out Tryz.underlying50 rfl (by kernel_rfl) ?_))
  | (with_reducible (show wpList _ _ _ (⟨_,.store 50 (.tmp 4) _,_,_,_,none⟩ :: _) _ _);go_must (refine wpList_store_row rfl 50 _ _ rfl w.heap.size (c5 st code who a m c got) (by simp [Act.eval]) rfl 50 _ H2.out.2.2.2.2 (by kernel_rfl) rfl (c5_one _ _ _ _ _ _ _) ?_)))
 have hg:=setRow_heap (w2.alloc (.cells (c5 st code who a m c got) 50)) w.heap.size _ (c5 st code who a m c got) 50 (0,0) H2.out.2.2.2.2
 have F:Fr (fun k=>k=w.heap.size) (w2.alloc (.cells (c5 st code who a m c got) 50)) ((w2.alloc (.cells (c5 st code who a m c got) 50)).setRow w.heap.size (c5 st code who a m c got)):=(Fr.refl (fun k=>k=w.heap.size) _).setRow (fun _=>rfl) _
 have F2:Fr (fun k=>k=w.heap.size) w2 ((w2.alloc (.cells (c5 st code who a m c got) 50)).setRow w.heap.size (c5 st code who a m c got)):=((Fr.refl _ w2).alloc _).trans F
 have z2:=H2.out.2.1.size
 simp only [size_alloc] at z2
 have bw:Below w.heap.size w w2:=HB.out.1.trans (H2.out.2.1.mono (by simp))
 refine bodyPost_ret (results_row_tmp Tryz.results25 _ _ w.heap.size 50 _ (0,0) _ _ rfl hg Tryz.underlying50 rfl (by kernel_rfl) rfl) rfl ⟨a,c,rfl,H2.out.1.kept F2 (fun k hk e=>?_),bw.trans (F2.to_below bw.size (fun k e=>by omega)),fun b hk=>?_,H2.out.2.2.2.1.fr A F2 (fun b hk e=>?_) (fun b e=>?_)⟩
 ·have:=H2.out.2.2.1 k hk;simp at this;omega
 ·have:=H2.out.2.2.1 b hk;simp at this;omega
 ·have:=HB.out.2.lt A b hk;omega
 ·have:=HB.out.2.bel.size;omega
end
def twT:List (Int×Int):=[(0,2),(1,2)]
def twQ:List (Int×Int×Int×Int):=[(0,3,1,3),(1,0,0,3)]
def twL:List (Int×Int×Int×Int):=[(0,1,5,3)]
theorem two_any (w:World) :
  Calls Tryz.prog 20 #[] w fun e w'=>∃ b1 b2 b3,e=.returned (.agg #[.int .i64 2,.slice (some ⟨b1,0,none⟩) 2 2,.slice (some ⟨b2,0,none⟩) 2 2,.slice (some ⟨b3,0,none⟩) 1 1]) /\
   Inl w' 2 (.slice (some ⟨b1,0,none⟩) 2 2) (twT.map tRow)/\Inl w' 4 (.slice (some ⟨b2,0,none⟩) 2 2) (twQ.map qRow)/\Inl w' 4 (.slice (some ⟨b3,0,none⟩) 1 1) (twL.map qRow)/\Below w.heap.size w w':=by
 go_enter Tryz.func20,Tryz.ntmps20
 go_wp2
 have h4:=new4 w (.cells #[.int .i64 2,.slice (some ⟨w.heap.size+1,0,none⟩) 2 2,.slice (some ⟨w.heap.size+1+1,0,none⟩) 2 2,.slice (some ⟨w.heap.size+1+1+1,0,none⟩) 1 1] 32) (.cells #[.int .i64 0,.int .i64 2,.int .i64 1,.int .i64 2] 34) (.cells #[.int .i64 0,.int .i64 3,.int .i64 1,.int .i64 3,.int .i64 1,.int .i64 0,.int .i64 0,.int .i64 3] 55) (.cells #[.int .i64 0,.int .i64 1,.int .i64 5,.int .i64 3] 67)
 refine bodyPost_ret (v:=.agg #[.int .i64 2,.slice (some ⟨w.heap.size+1,0,none⟩) 2 2,.slice (some ⟨w.heap.size+1+1,0,none⟩) 2 2,.slice (some ⟨w.heap.size+1+1+1,0,none⟩) 1 1]) (results_cell_row Tryz.results20 _ _ w.heap.size 32 _ (0,0) _ rfl h4.1 Tryz.underlying32 rfl (by kernel_rfl)) rfl ⟨_,_,_,rfl,inl_lit h4.2.1 rfl rfl ?_ ?_ (by decide),inl_lit h4.2.2.1 rfl rfl ?_ ?_ (by decide),inl_lit h4.2.2.2 rfl rfl ?_ ?_ (by decide),?_⟩
 all_goals try (intro r hr;simp [twT,twQ,twL,tRow,qRow] at hr;rcases hr with rfl | rfl <;> first | rfl | (intro u hu;simp at hu;rcases hu with rfl | rfl | rfl | rfl <;> rfl) | (intro u hu;simp at hu;rcases hu with rfl | rfl <;> rfl) | (intro u hu;simp at hu;subst hu;rfl) | (intro u hu;simp at hu;rcases hu with rfl | rfl | rfl <;> rfl))
 all_goals try (intro r hr;simp [twT,twQ,twL,tRow,qRow] at hr;subst hr;first | rfl | (intro u hu;simp at hu;rcases hu with rfl | rfl | rfl | rfl <;> rfl) | (intro u hu;simp at hu;rcases hu with rfl | rfl | rfl <;> rfl))
 exact ((((Below.refl _ w).alloc (Nat.le_refl _) _).alloc (by simp) _).alloc (by simp;omega) _).alloc (by simp;omega) _
theorem fits_tw:Fits 2 twT twQ twL:=by
 have at3:∀ {α:Type}{l:List α}{i:Nat}{p:α},l[i]? = some p->p∈l:=fun h=>List.mem_of_getElem? h
 refine ⟨by omega,by decide,?_,?_,?_,?_,?_⟩
 ·intro i p hp
  have:=at3 hp
  simp [twT] at this
  rcases this with rfl | rfl <;> simp [okT]
 ·intro i p hp
  have:=at3 hp
  simp [twQ] at this
  rcases this with rfl | rfl <;> simp [okQ,twT]
 ·intro i k p q hk hp hq
  have hi:=(List.getElem?_eq_some_iff.1 hp).1
  simp [twQ] at hi
  have e1:i=1:=by omega
  have e2:k=0:=by omega
  subst e1 e2
  simp [twQ] at hp hq
  subst hp hq
  simp
 ·intro i p hp
  have:=at3 hp
  simp [twL] at this
  subst this
  simp [okQ]
 ·intro i k p q hk hp hq
  have hi:=(List.getElem?_eq_some_iff.1 hp).1
  simp [twL] at hi
  omega
open Go.RowKit
theorem ipcR {K:RM}{m:Ms}{t:Nat}(hc:K.cur=t) (hm:isMs K.threads.length m=true) (hd:m.dst < 0):K.ipc m=(0,(K.asks t m).recv 7 t true):=by
 unfold RM.ipc
 rw [if_neg (by omega),if_neg (by rw [hm];simp),if_pos hd,hc,Int.toNat_natCast]
theorem ipcS {K:RM}{m:Ms}{t r:Nat}{u:Th}{p:Int×Int×Int×Int}(hc:K.cur=t) (hu:K.threads[t]? = some u) (hm:isMs K.threads.length m=true) (hd:¬ m.dst < 0) (hp:findQ K.passes u.sp m.dst=some p) (hb:¬ (bits .and .i64 p.2.2.2 1=0\/p.2.2.1=t)) (hr:p.2.2.1.toNat=r) :
  K.ipc m=(0,((K.asks t m).lendsTo t (bits .and .i64 p.2.2.2 2 != 0)).sends t r m):=by
 unfold RM.ipc
 rw [if_neg (by omega),if_neg (by rw [hm];simp),if_neg hd,hc,Int.toNat_natCast,hu]
 show (match findQ K.passes u.sp m.dst with | none=>_ | some p=>_)=_
 rw [hp]
 show (if bits .and .i64 p.2.2.2 1=0\/p.2.2.1=t then _ else _)=_
 rw [if_neg hb,hr]
theorem sendsW {K:RM}{t r:Nat}{m:Ms}{x:Th}(hx:K.threads[r]? = some x) (h:¬ (x.st=3/\(x.frm=-1\/x.frm=t))) (hw:m.wait≠0):K.sends t r m=K.waits t 2 r:=by
 unfold RM.sends
 rw [hx]
 show (if x.st=3/\(x.frm=-1\/x.frm=t) then _ else _)=_
 rw [if_neg h,if_neg hw]
theorem sendsN {K:RM}{t r:Nat}{m:Ms}{x:Th}(hx:K.threads[r]? = some x) (h:x.st=3/\(x.frm=-1\/x.frm=t)):K.sends t r m=((K.deliver t r).toFirst r).goes 7 t true:=by
 unfold RM.sends
 rw [hx]
 show (if x.st=3/\(x.frm=-1\/x.frm=t) then _ else _)=_
 rw [if_pos h]
theorem goesR {K:RM}{n s:Nat}{stands:Bool}{z:Th}(hz:K.threads[s]? = some z) (h:z.frm≠-2):K.goes n s stands=K.recv n s stands:=by
 unfold RM.goes
 rw [hz]
 show (if z.frm≠-2 then _ else _)=_
 rw [if_pos h]
theorem goesO {K:RM}{n s:Nat}{z:Th}(hz:K.threads[s]? = some z) (h:z.frm=-2):K.goes n s true=K.over s 0:=by
 unfold RM.goes
 rw [hz]
 show (if z.frm≠-2 then _ else _)=_
 rw [if_neg (by omega),if_pos rfl]
theorem recvW {n:Nat}{K:RM}{t:Nat}{stands:Bool}{x:Th}(hx:K.threads[t]? = some x) (hs:senM K.threads t x.frm K.threads.length < 0) (hw:x.wait≠0):K.recv (n+1) t stands=K.waits t 3 (-1):=by
 rw [recv_none hx hs,if_pos hw]
theorem deliverE {K:RM}{s r:Nat}{a b:Th}{L:List Lf}{g:Int}(hs:K.threads[s]? = some a) (hr:K.threads[r]? = some b) (hl:lendL K.leaves a b=(L,g)) :
  K.deliver s r={ K.upd r (fun u=>{ u with st:=1,time:=-1,code:=0,who:=s,ws:=a.mw,got:=g }) with leaves:=L }:=by
 unfold RM.deliver
 rw [hs,hr]
 show ({ K.upd r (fun u=>{ u with st:=1,time:=-1,code:=0,who:=s,ws:=a.mw,got:=(lendL K.leaves a b).2 }) with leaves:=(lendL K.leaves a b).1 }:RM)=_
 rw [hl]
theorem lendN {L:List Lf}{a b:Th}(h:a.item < 0\/b.win < 0\/a.lends=false):lendL L a b=(L,-1):=by
 unfold lendL
 rw [if_pos h]
theorem gone_same {L:List Lf}{s n:Int}{own:Bool}(h1:∀ l∈L,¬ (l.usp=s/\l.upg=n)) (h2:∀ l∈L,¬ (l.sp=s/\l.pg=n)):goneL L s n own=L:=by
 have hu:∀ l,Und L s n l->l∈L->False:=fun l hu=>by
  induction hu with
  | base l e1 e2=>exact fun hl=>h1 l hl ⟨e1,e2⟩
  | step l p hp _ _ _ ih=>exact fun _=>ih hp
 unfold goneL
 rw [List.filter_eq_self]
 intro l hl
 rw [stays_iff]
 exact ⟨fun h=>hu l h hl,fun h=>h2 l hl h.2⟩
theorem lendY {L:List Lf}{a b:Th}{l:Lf}(hi:¬ (a.item < 0\/b.win < 0\/a.lends=false)) (hg:goneL L b.sp b.win true=L) (hf:findLf L a.sp a.item=some l) (hz:¬ bits .and .i64 l.rt a.rt=0):lendL L a b=(L ++ [⟨b.sp,b.win,l.fr,bits .and .i64 l.rt a.rt,a.sp,a.item⟩],b.win):=by
 unfold lendL
 rw [if_neg hi,hg,hf]
 show (if bits .and .i64 l.rt a.rt=0 then _ else _)=_
 rw [if_neg hz]
def tw0:RM:=(RK.new 2 twT twQ twL).up
def kw1:RM:=tw0.stored 1 2 9
def km1:Ms:=⟨3,[4,-4],1,1,-1,-1,-1⟩
def kw2:RM:=((kw1.asks 0 km1).lendsTo 0 true).waits 0 2 1
def km2:Ms:=⟨-1,[],-1,0,0,5,-1⟩
def kw3:RM:=({ (kw2.asks 1 km2).upd 1 (fun u=>{ u with st:=1,time:=-1,code:=0,who:=0,ws:=[4,-4],got:=5 }) with leaves:=[⟨0,1,5,3,-1,-1⟩,⟨1,5,5,1,0,1⟩] }:RM).waits 0 3 (-1)
theorem kw_ipc1:kw1.ipc km1=(0,kw2):=by
 rw [ipcS (t:=0) (r:=1) (u:=kw1.threads[0]) (p:=(0,3,1,3)) (by kernel_rfl) (by kernel_rfl) (by kernel_rfl) (by decide) (by kernel_rfl) (by decide) (by decide)]
 rw [sendsW (x:=kw1.threads[1]) (by kernel_rfl) (by rintro ⟨h,_⟩;exact absurd h (by decide)) (by decide)]
 kernel_rfl
theorem kw_del:(kw2.asks 1 km2).deliver 0 1={ (kw2.asks 1 km2).upd 1 (fun u=>{ u with st:=1,time:=-1,code:=0,who:=0,ws:=[4,-4],got:=5 }) with leaves:=[⟨0,1,5,3,-1,-1⟩,⟨1,5,5,1,0,1⟩] }:=by
 have hl:lendL (kw2.asks 1 km2).leaves (kw2.asks 1 km2).threads[0] (kw2.asks 1 km2).threads[1]=([⟨0,1,5,3,-1,-1⟩,⟨1,5,5,1,0,1⟩],5):=by
  refine (lendY (l:=⟨0,1,5,3,-1,-1⟩) (by decide) (gone_same ?_ ?_) (by kernel_rfl) (by decide)).trans (by kernel_rfl)
  ·intro l hl
   have:l=⟨0,1,5,3,-1,-1⟩:=List.mem_singleton.1 hl
   subst this
   decide
  ·intro l hl
   have:l=⟨0,1,5,3,-1,-1⟩:=List.mem_singleton.1 hl
   subst this
   decide
 rw [deliverE (a:=(kw2.asks 1 km2).threads[0]) (b:=(kw2.asks 1 km2).threads[1]) (by kernel_rfl) (by kernel_rfl) hl]
 rfl
theorem kw_ipc2:kw2.ipc km2=(0,kw3):=by
 rw [ipcR (t:=1) (by kernel_rfl) (by kernel_rfl) (by decide),recv_some (n:=6) (s:=0) (x:=(kw2.asks 1 km2).threads[1]) (by kernel_rfl) (by kernel_rfl)]
 show (0,((kw2.asks 1 km2).deliver 0 1).goes 6 0 false)=_
 rw [kw_del]
 rw [goesR (z:=kw2.threads[0]) (by kernel_rfl) (by decide),recvW (n:=5) (x:=kw2.threads[0]) (by kernel_rfl) (by decide) (by decide)]
 rfl
section
variable {Rep:World->Nat->(Nat->Prop)->RM->Prop}(A:ApM Rep)
theorem Fr.cell0 {S:Nat->Prop}{w w':World}(h:Fr S w w'){b j:Nat}(hb:b < w.heap.size) (hs:¬ S b):w'.cell? ⟨b,j,none⟩=w.cell? ⟨b,j,none⟩:=World.cell?_of_block (h.block b hb hs)
theorem inl_two (w:World) (a b:Int):Inl (w.alloc (.cells #[.int .i64 a,.int .i64 b] 2)) 1 (.slice (some ⟨w.heap.size,0,none⟩) 2 2) ([a,b].map lnI):=
 inl_lit (heap_alloc_new w _) rfl rfl (by intro r hr;simp at hr;rcases hr with rfl | rfl <;> rfl) (by intro r hr u hu;simp at hr;rcases hr with rfl | rfl <;> (simp [lnI] at hu;subst hu;rfl)) (by decide)
theorem inl_nil (w:World):Inl w 1 (.slice none 0 0) (([]:List Int).map lnI):=⟨by simp,by simp,none,0,rfl,by simp,.inl rfl⟩
include A in
theorem known_any (w:World) (hg:Gl w):Calls Tryz.prog 15 #[] w fun e w'=>e=.returned (.bool true)/\Below w.heap.size w w':=by
 go_enter Tryz.func15,Tryz.ntmps15
 go_wp2_with fail
 refine (two_any w).mono ?_
 rintro e w1 ⟨b1,b2,b3,rfl,i1,i2,i3,B1⟩
 have C2:=hid (boot_any A 2 _ _ _ _ _ _ _ _ _ twT twQ twL w1 (hg.below B1) i1 i2 i3 fits_tw 0)
 have HB1:=hid B1
 clear i1 i2 i3 B1 hg
 go_wp2_with fail
 refine C2.out.mono ?_
 rintro e w2 ⟨x,S2,rfl,K2,B2⟩
 have HB2:=hid B2
 have C3:=hid (ks_current A K2)
 clear B2 K2
 go_wp2_with fail
 refine C3.out.mono ?_
 rintro e w3 ⟨rfl,B3,K3⟩
 rw [show (RK.new 2 twT twQ twL).up.cur=0 by kernel_rfl]
 have C4:=hid (ks_store A K3 1 2 9)
 clear B3 K3
 go_wp2_with fail
 refine C4.out.mono ?_
 rintro e w4 ⟨rfl,S4,K4,_⟩
 rw [show ((RK.new 2 twT twQ twL).up.touch 1 2 2).2=0 by kernel_rfl]
 have C5:=hid (ks_ipc A (K4.below A ((Below.refl _ w4).alloc (Nat.le_refl _) _)) (by omega) km1 (some ⟨w4.heap.size,0,none⟩) 2 (inl_two w4 4 (-4)) (fun k hk hS=>by
  have e:k=w4.heap.size:=by simpa [inBlock,km1] using hk.symm
  have:=K4.lt A k hS
  omega))
 clear K4
 go_wp2_with fail
 refine C5.out.mono ?_
 rintro e w5 ⟨rfl,S5,K5,_⟩
 have E5:(RK.new 2 twT twQ twL).up.stored 1 2 9=kw1:=rfl
 rw [E5,kw_ipc1] at K5
 rw [E5,kw_ipc1]
 have C6:=hid (ks_current A K5)
 clear K5 E5
 go_wp2_with fail
 refine C6.out.mono ?_
 rintro e w6 ⟨rfl,_,K6⟩
 rw [show kw2.cur=1 by kernel_rfl]
 have C7:=hid (ks_ipc A K6 (by omega) km2 none 0 (inl_nil w6) (fun k hk=>by simp [inBlock] at hk))
 clear K6
 go_wp2_with fail
 refine C7.out.mono ?_
 rintro e w7 ⟨rfl,S7,K7,_⟩
 rw [kw_ipc2] at K7
 rw [kw_ipc2]
 have C8:=hid (ks_look A K7 1 kw3.threads[1] (by kernel_rfl))
 have L7:=hid (K7.lt A)
 clear K7
 go_wp2_with fail
 refine C8.out.mono ?_
 rintro e w8 ⟨a8,c8,rfl,s8,B8,n8,K8⟩
 rw [show kw3.threads[1].st=1 by kernel_rfl,show kw3.threads[1].code=0 by kernel_rfl,show kw3.threads[1].who=0 by kernel_rfl,show kw3.threads[1].ws.length=2 by kernel_rfl,show kw3.threads[1].got=5 by kernel_rfl]
 rw [show kw3.threads[1].ws.length=2 by kernel_rfl,show kw3.threads[1].ws=[4,-4] by kernel_rfl] at s8
 rw [show kw3.threads[1].ws.length=2 by kernel_rfl] at n8
 obtain ⟨g8,ea,_⟩:=s8.is_some (by omega)
 subst ea
 have ng:w7.heap.size<=g8:=n8 g8 rfl
 have lg:g8 < w8.heap.size:=s8.lt rfl
 have r0:w8.cell? ⟨g8,0,none⟩=some (.int .i64 4):=s8.row (i:=0) (r:=[.int .i64 4]) rfl 0 _ rfl
 have r1:w8.cell? ⟨g8,1,none⟩=some (.int .i64 (-4)):=s8.row (i:=1) (r:=[.int .i64 (-4)]) rfl 0 _ rfl
 have K8':=K8.below A ((Below.refl _ w8).alloc (Nat.le_refl _) (.cells (c5 1 0 0 (some ⟨g8,0,none⟩) 2 c8 5) 50))
 have C9:=hid (ks_load A K8' 5 2)
 have HW:=hid (And.intro r0 (And.intro r1 (And.intro B8 K8.bel)))
 clear K8 K8' s8 n8 B8 r0 r1
 go_wp2_with (with_reducible (show wpList _ _ _ (⟨_,.store 50 _ _,_,_,_,none⟩ :: _) _ _);go_must (refine wpList_store_new rfl 50 _ _ rfl w8 _ (c5 1 0 0 (some ⟨g8,0,none⟩) 2 c8 5) 50 (by simp [Act.eval]) rfl (by kernel_rfl) rfl (c5_one _ _ _ _ _ _ _) ?_))
 refine C9.out.mono ?_
 rintro e w9 ⟨rfl,B9,K9⟩
 rw [show kw3.load 5 2=(9,0) by kernel_rfl]
 have z8:(w8.alloc (.cells (c5 1 0 0 (some ⟨g8,0,none⟩) 2 c8 5) 50)).heap.size=w8.heap.size+1:=by simp
 rw [z8] at B9
 have z9:=B9.size
 rw [z8] at z9
 have q0:w9.cell? ⟨g8,0,none⟩=some (.int .i64 4):=(World.cell?_of_block (B9.block g8 (by omega))).trans ((World.cell?_of_block (Below.heap_alloc _ _ _ lg)).trans HW.out.1)
 have q1:w9.cell? ⟨g8,1,none⟩=some (.int .i64 (-4)):=(World.cell?_of_block (B9.block g8 (by omega))).trans ((World.cell?_of_block (Below.heap_alloc _ _ _ lg)).trans HW.out.2.1)
 have qb:w9.heap[w8.heap.size]? = some (.cells (c5 1 0 0 (some ⟨g8,0,none⟩) 2 c8 5) 50 (0,0)):=(B9.block _ (by omega)).trans (heap_alloc_new w8 _)
 have C10:=hid (ks_store A K9 5 2 1)
 have HQ:=hid (And.intro q0 (And.intro q1 qb))
 clear K9 q0 q1 qb B9
 go_wp2_with fail
 refine C10.out.mono ?_
 rintro e w10 ⟨rfl,S10,K10,_,F10⟩
 rw [show (kw3.touch 5 2 2).2=7 by kernel_rfl]
 have z7:=HW.out.2.2.1.size
 have n1:¬ S7 g8:=fun h=>by have:=L7.out g8 h;omega
 have n2:¬ S7 w8.heap.size:=fun h=>by have:=L7.out _ h;omega
 have u0:=(F10.cell0 (j:=0) (by omega) n1).trans HQ.out.1
 have u1:=(F10.cell0 (j:=1) (by omega) n1).trans HQ.out.2.1
 have ub:=(F10.block w8.heap.size (by omega) n2).trans HQ.out.2.2
 have v0:=(cell_of_row w10 _ 0 _ _ _ ub).trans (show _=some (Value.int .i64 1) from rfl)
 have v2:=(cell_of_row w10 _ 2 _ _ _ ub).trans (show _=some (Value.int .i64 0) from rfl)
 have v3:=(cell_of_row w10 _ 3 _ _ _ ub).trans (show _=some (Value.slice (some ⟨g8,0,none⟩) 2 c8) from rfl)
 have v4:=(cell_of_row w10 _ 4 _ _ _ ub).trans (show _=some (Value.int .i64 5) from rfl)
 have HE:=hid (HB1.out.trans (K10.bel.mono HB1.out.size))
 clear K10 F10 n1 n2 ub
 go_wp2
 go_ret
 exact ⟨rfl,HE.out⟩
end
open Go.RowKit
structure CfgAt (W w:World) (cb:Nat) (sp:Int) (T:List (Int×Int)) (Q L:List (Int×Int×Int×Int)) (vT vP vL:Value):Prop where
 blk:w.heap[cb]? = some (.cells #[.int .i64 sp,vT,vP,vL] 32 (0,0))
 new:W.heap.size<=cb
 sT:Sl w 34 2 vT (T.map tRow)
 sP:Sl w 55 4 vP (Q.map qRow)
 sL:Sl w 67 4 vL (L.map qRow)
 nT:∀ k,vT.ownBlock=some k->W.heap.size<=k/\k≠cb
 nP:∀ k,vP.ownBlock=some k->W.heap.size<=k/\k≠cb
 nL:∀ k,vL.ownBlock=some k->W.heap.size<=k/\k≠cb
 TP:∀ k,vT.ownBlock=some k->vP.ownBlock≠some k
 TL:∀ k,vT.ownBlock=some k->vL.ownBlock≠some k
 PL:∀ k,vP.ownBlock=some k->vL.ownBlock≠some k
 bel:Below W.heap.size W w
def CfgOwn (cb:Nat) (vT vP vL:Value) (k:Nat):Prop:=k=cb\/vT.ownBlock=some k\/vP.ownBlock=some k\/vL.ownBlock=some k
section
variable {W w w1 w2:World}{cb:Nat}{sp:Int}{T:List (Int×Int)}{Q L:List (Int×Int×Int×Int)}{vT vP vL:Value}
theorem CfgAt.lt (h:CfgAt W w cb sp T Q L vT vP vL):cb < w.heap.size:=(Array.getElem?_eq_some_iff.1 h.blk).1
theorem CfgAt.kept (h:CfgAt W w cb sp T Q L vT vP vL){S:Nat->Prop}(hf:Fr S w w1) (hs:∀ k,CfgOwn cb vT vP vL k->¬ S k) (h0:∀ k,S k->W.heap.size<=k):CfgAt W w1 cb sp T Q L vT vP vL:=
 ⟨(hf.block cb h.lt (hs cb (.inl rfl))).trans h.blk,h.new,h.sT.kept hf (fun k hk=>hs k (.inr (.inl hk))),h.sP.kept hf (fun k hk=>hs k (.inr (.inr (.inl hk)))),h.sL.kept hf (fun k hk=>hs k (.inr (.inr (.inr hk)))),h.nT,h.nP,h.nL,h.TP,h.TL,h.PL,h.bel.trans (hf.to_below h.bel.size h0)⟩
theorem CfgAt.below (h:CfgAt W w cb sp T Q L vT vP vL) (hb:Below w.heap.size w w1):CfgAt W w1 cb sp T Q L vT vP vL:=h.kept (Fr.of_below hb (fun _=>False)) (fun _ _ e=>e) (fun _ e=>e.elim)
theorem CfgAt.cell (h:CfgAt W w cb sp T Q L vT vP vL) (j:Nat):w.cell? ⟨cb,j,none⟩=(#[.int .i64 sp,vT,vP,vL]:Array Value)[j]?:=cell_of_row w cb j _ _ _ h.blk
theorem CfgAt.addT (h:CfgAt W w cb sp T Q L vT vP vL) (hw:Fr (fun _=>False) w w1){v':Value}{p:Int×Int}(G:Grew 34 2 vT w1 v' (T.map tRow ++ [tRow p]) w2) :
  w2.cell? ⟨cb,1,none⟩=some vT/\w2.frozen? ⟨cb,1,none⟩=false/\CfgAt W (w2.setCell ⟨cb,1,none⟩ v') cb sp (T ++ [p]) Q L v' vP vL:=by
 have h1:=h.kept hw (fun _ _ e=>e) (fun _ e=>e.elim)
 have F2:Fr (fun k=>vT.ownBlock=some k) w1 w2:=G.fr (Fr.refl _ w1) (fun k hk _=>hk)
 have b2:w2.heap[cb]? = some (.cells #[.int .i64 sp,vT,vP,vL] 32 (0,0)):=(F2.block cb h1.lt (fun e=>(h.nT cb e).2 rfl)).trans h1.blk
 have F3:Fr (fun k=>k=cb) w2 (w2.setCell ⟨cb,1,none⟩ v'):=(Fr.refl (fun k=>k=cb) w2).setCell (p:=⟨cb,1,none⟩) (fun _=>rfl) _
 have nv:∀ k,v'.ownBlock=some k->w1.heap.size<=k\/vT.ownBlock=some k:=G.at_
 have lw:=h1.bel.size
 have nn:∀ k,v'.ownBlock=some k->W.heap.size<=k/\k≠cb:=fun k hk=>by
  rcases nv k hk with e | e
  ·have:=h1.lt;omega
  ·exact h.nT k e
 have F:=F2.join F3
 exact ⟨(cell_of_row w2 cb 1 _ _ _ b2).trans rfl,frozen_of_row _ _ _ _ _ b2,⟨heap_setCell_same w2 cb 1 _ 32 v' b2,h.new,by rw [List.map_append];exact G.sl.kept F3 (fun k hk e=>(nn k hk).2 e),h1.sP.kept F (fun k hk e=>by rcases e with e | e;exact h.TP k e hk;exact (h.nP k hk).2 e),h1.sL.kept F (fun k hk e=>by rcases e with e | e;exact h.TL k e hk;exact (h.nL k hk).2 e),nn,h.nP,h.nL,fun k hk e=>by rcases nv k hk with g | g;(have:=h1.sP.lt e;omega);exact h.TP k g e,fun k hk e=>by rcases nv k hk with g | g;(have:=h1.sL.lt e;omega);exact h.TL k g e,h.PL,h1.bel.trans (F.to_below lw (fun k e=>by rcases e with e | e;exact (h.nT k e).1;(have:=h.new;omega)))⟩⟩
end
theorem inl_row {w:World}{size:Nat}(r:List Value) (t:TypeId) (hs:r.length=size) (h1:∀ u∈r,u.oneCell'=true):Inl (w.alloc (.cells r.toArray t)) size (.slice (some ⟨w.heap.size,0,none⟩) 1 1) [r]:=
 inl_lit (heap_alloc_new w _) (by simp) rfl (by intro q hq;rw [List.mem_singleton] at hq;rw [hq];exact hs) (by intro q hq;rw [List.mem_singleton] at hq;rw [hq];exact h1) (by decide)
theorem cfg_first {W:World}{w:World}(sp:Int) (hb:Below W.heap.size W w):CfgAt W (w.alloc (.cells #[.int .i64 sp,.slice none 0 0,.slice none 0 0,.slice none 0 0] 32)) w.heap.size sp [] [] [] (.slice none 0 0) (.slice none 0 0) (.slice none 0 0):=
 have n0:∀ k,Value.ownBlock (.slice none 0 0)=some k->False:=fun k h=>by simp [Value.ownBlock] at h
 ⟨heap_alloc_new w _,hb.size,Sl.nil _ _ _,Sl.nil _ _ _,Sl.nil _ _ _,fun k h=>(n0 k h).elim,fun k h=>(n0 k h).elim,fun k h=>(n0 k h).elim,fun k h=>(n0 k h).elim,fun k h=>(n0 k h).elim,fun k h=>(n0 k h).elim,hb.alloc hb.size _⟩
open Go.RowKit
theorem ex_le (s:ByteArray) (a b:Nat) (h:s.size<=1000):(s.extract a b).size<=1000:=by
 rw [ByteArray.size_extract]
 omega
theorem small_any (n:Nat) (h:n < 100) (w:World):Calls Tryz.prog 178 #[.int .i64 n] w fun e w'=>∃ s,e=.returned (.string s)/\s.size<=1000/\w'=w:=by
 by_cases h10:n < 10
 ·have d:decide ((n:Int) < 10)=true:=by simp;omega
  go_enter Tryz.func178,Tryz.ntmps178
  go_wp2
  go_ret
  exact ⟨_,rfl,ex_le _ _ _ (by decide),rfl⟩
 ·have d:decide ((n:Int) < 10)=false:=by simp;omega
  go_enter Tryz.func178,Tryz.ntmps178
  go_wp2
  go_ret
  exact ⟨_,rfl,ex_le _ _ _ (by decide),rfl⟩
theorem formatInt_any (n:Nat) (h:n < 100) (w:World):Calls Tryz.prog 176 #[.int .i64 n,.int .i64 10] w fun e w'=>∃ s,e=.returned (.string s)/\s.size<=1000/\w'=w:=by
 have d:decide ((0:Int)<=(n:Int))=true:=by simp
 have d2:decide ((n:Int) < 100)=true:=by simp;omega
 go_enter Tryz.func176,Tryz.ntmps176
 go_wp2_with (go_at_call 178;refine (small_any n h _).mono ?_;rintro e w1 ⟨s,rfl,hs,rfl⟩)
 go_ret
 exact ⟨_,rfl,hs,rfl⟩
theorem itoa2_any (n:Nat) (h:n < 100) (w:World):Calls Tryz.prog 173 #[.int .i64 n] w fun e w'=>∃ s,e=.returned (.string s)/\s.size<=1000/\w'=w:=by
 go_enter Tryz.func173,Tryz.ntmps173
 go_wp2_with (go_at_call 176;refine (formatInt_any n h _).mono ?_;rintro e w1 ⟨s,rfl,hs,rfl⟩)
 go_ret
 exact ⟨_,rfl,hs,rfl⟩
theorem itoa_any (n:Nat) (h:n < 100) (w:World):Calls Tryz.prog 170 #[.int .i64 n] w fun e w'=>∃ s,e=.returned (.string s)/\s.size<=1000/\w'=w:=by
 go_enter Tryz.func170,Tryz.ntmps170
 go_wp2_with (go_at_call 173;refine (itoa2_any n h _).mono ?_;rintro e w1 ⟨s,rfl,hs,rfl⟩)
 go_ret
 exact ⟨_,rfl,hs,rfl⟩
end Go.Proofs.YteejjgbeknnmeaaGreatDoor
