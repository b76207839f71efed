import Derived.Test.YtgiiegppaleldaaGreatDoorRows
import Derived.Test.YtgiiegppaleldaaGreatDoorL0
import Derived.LaidEql
import Derived.Stop.Asserts
import Derived.RowKitTokens
/- number, through errors.As at a target of the type deny.Denial, over an error that one or two Mets wrap. -/
namespace Go.Proofs.YtgiiegppaleldaaGreatDoor
open Go.RowKit Go.Extern.Stop Go.Stop Go.Extern

theorem Tryz.valueOf157 (t : Addr) (w : World) : (ReflectliteValue.unpack (.iface 157 (.pointer (some t)))).run Tryz.prog w
    = .ok (.agg #[.pointer (some ⟨4, 157, none⟩), .pointer (some ⟨w.heap.size, 0, none⟩), .int .u64 150]) (w.alloc (.cells #[.pointer (some t)] 157)) := by kernel_rfl
theorem Tryz.type157 (a : Addr) (w : World) : (ReflectliteValue.methodAny (ReflectliteValue.valueError "reflectlite.Value.Type" 0) (fun t _ _ _ => ReflectliteType.toType t) #[.agg #[.pointer (some ⟨4, 157, none⟩), .pointer (some a), .int .u64 150]]).run Tryz.prog w
    = .ok (.iface 224 (.agg #[.pointer (some ⟨4, 157, none⟩)])) w := by kernel_rfl
theorem Tryz.methodKind (h : Value) (w : World) : (Go.method 385 224 (.agg #[h]) "Kind").run Tryz.prog w = .ok (152, h) w := by kernel_rfl
theorem Tryz.kind157 (w : World) : ((ReflectliteType.abiMethod fun t => (fun a : Nat => Value.int IntKind.u8 (a : Int)) <$> Rtype.kind t) #[.pointer (some ⟨4, 157, none⟩)]).run Tryz.prog w = .ok (.int .u8 22) w := by kernel_rfl
theorem Tryz.kind155 (w : World) : ((ReflectliteType.abiMethod fun t => (fun a : Nat => Value.int IntKind.u8 (a : Int)) <$> Rtype.kind t) #[.pointer (some ⟨4, 155, none⟩)]).run Tryz.prog w = .ok (.int .u8 25) w := by kernel_rfl
theorem rlm (z : Sem Value) (f : TypeId → Addr → Nat → Nat → Sem Value) (v : Value) :
    ReflectliteValue.method z f #[v] = (do match ← ReflectliteValue.parts v with | none => z | some (t, a, fl) => f t a fl (fl % 32)) := rfl
theorem Tryz.parts157 (a : Addr) (w : World) : (ReflectliteValue.parts (.agg #[.pointer (some ⟨4, 157, none⟩), .pointer (some a), .int .u64 150])).run Tryz.prog w = .ok (some (157, a, 150)) w := by kernel_rfl
theorem Tryz.isNil157 (a p : Addr) (W : World) (ha : W.cell? a = some (.pointer (some p))) :
    (ReflectliteValue.method (ReflectliteValue.valueError "reflectlite.Value.IsNil" 0) ReflectliteValue.isNil #[.agg #[.pointer (some ⟨4, 157, none⟩), .pointer (some a), .int .u64 150]]).run Tryz.prog W = .ok (.bool false) W := by
  rw [rlm]
  simp only [Sem.run_bind, Tryz.parts157, Result.andThen]
  simp [ReflectliteValue.isNil, loadVar, isAgg, underlying, Tryz.underlying157, ha, Result.andThen]
theorem Tryz.methodElem (h : Value) (w : World) : (Go.method 385 224 (.agg #[h]) "Elem").run Tryz.prog w = .ok (164, .agg #[h]) w := by kernel_rfl
theorem Tryz.methodImplements (h : Value) (w : World) : (Go.method 385 224 (.agg #[h]) "Implements").run Tryz.prog w = .ok (165, .agg #[h]) w := by kernel_rfl
theorem Tryz.methodAssignableTo (h : Value) (w : World) : (Go.method 385 224 (.agg #[h]) "AssignableTo").run Tryz.prog w = .ok (162, .agg #[h]) w := by kernel_rfl
theorem Tryz.methodUnwrap (v : Value) (w : World) : (Go.method 385 153 v "Unwrap").run Tryz.prog w = .ok (156, v) w := by kernel_rfl
theorem Tryz.elem157 (w : World) : (ReflectliteType.method ReflectliteType.elem #[.agg #[.pointer (some ⟨4, 157, none⟩)]]).run Tryz.prog w = .ok (.iface 224 (.agg #[.pointer (some ⟨4, 155, none⟩)])) w := by kernel_rfl
theorem Tryz.implements155 (w : World) : (ReflectliteType.relation "Implements" ReflectliteType.implements_ #[.agg #[.pointer (some ⟨4, 155, none⟩)], .iface 224 (.agg #[.pointer (some ⟨4, 100, none⟩)])]).run Tryz.prog w = .ok (.bool true) w := by kernel_rfl
theorem Tryz.typeOf155 (v : Value) (w : World) : (ReflectliteType.typeOf #[.iface 155 v]).run Tryz.prog w = .ok (.iface 224 (.agg #[.pointer (some ⟨4, 155, none⟩)])) w := by kernel_rfl
theorem Tryz.typeOf153 (v : Value) (w : World) : (ReflectliteType.typeOf #[.iface 153 v]).run Tryz.prog w = .ok (.iface 224 (.agg #[.pointer (some ⟨4, 153, none⟩)])) w := by kernel_rfl
theorem Tryz.assignable155 (w : World) : (ReflectliteType.relation "AssignableTo" ReflectliteType.assignableTo #[.agg #[.pointer (some ⟨4, 155, none⟩)], .iface 224 (.agg #[.pointer (some ⟨4, 155, none⟩)])]).run Tryz.prog w = .ok (.bool true) w := by kernel_rfl
theorem Tryz.assignable153 (w : World) : (ReflectliteType.relation "AssignableTo" ReflectliteType.assignableTo #[.agg #[.pointer (some ⟨4, 153, none⟩)], .iface 224 (.agg #[.pointer (some ⟨4, 155, none⟩)])]).run Tryz.prog w = .ok (.bool false) w := by kernel_rfl
theorem Tryz.valueOf155 (c : Int) (w : World) : (ReflectliteValue.unpack (.iface 155 (.agg #[.int .i64 c]))).run Tryz.prog w
    = .ok (.agg #[.pointer (some ⟨4, 155, none⟩), .pointer (some ⟨w.heap.size, 0, none⟩), .int .u64 153]) (w.alloc (.cells #[.int .i64 c] 155)) := by kernel_rfl
theorem Tryz.elemOf157 (w : World) : (Rtype.elem? 157).run Tryz.prog w = .ok (some 155) w := by kernel_rfl
theorem Tryz.mk155 (p : Addr) (w : World) : (ReflectliteValue.mk 155 p ReflectliteValue.flagAddr).run Tryz.prog w = .ok (.agg #[.pointer (some ⟨4, 155, none⟩), .pointer (some p), .int .u64 409]) w := by kernel_rfl
theorem Tryz.elemV157 (a p : Addr) (W : World) (ha : W.cell? a = some (.pointer (some p))) :
    (ReflectliteValue.method (ReflectliteValue.valueError "reflectlite.Value.Elem" 0) ReflectliteValue.elem #[.agg #[.pointer (some ⟨4, 157, none⟩), .pointer (some a), .int .u64 150]]).run Tryz.prog W
      = .ok (.agg #[.pointer (some ⟨4, 155, none⟩), .pointer (some p), .int .u64 409]) W := by
  rw [rlm]
  simp only [Sem.run_bind, Tryz.parts157, Result.andThen]
  simp [ReflectliteValue.elem, loadVar, isAgg, underlying, Tryz.underlying157, ha, Result.andThen, Tryz.elemOf157, Tryz.mk155]
theorem rls (v x : Value) : ReflectliteValue.set #[v, x] = (do
    let (some (dst, a, fl), some (src, b, _)) := (← ReflectliteValue.parts v, ← ReflectliteValue.parts x)
      | unsupported (.noEntry "extern/(internal/reflectlite.Value).Set.zeroValue")
    if fl / ReflectliteValue.flagAddr % 2 == 0 then unsupported (.noEntry "extern/(internal/reflectlite.Value).Set.unaddressable")
    let val ← loadVar src b
    if ← Rtype.directlyAssignable dst src then storeVar dst a val
    else if ← Rtype.implements dst src then
      if (← Rtype.kind src) == 20 then
        match val with
        | .nilIface => unsupported (.noEntry "extern/reflectlite: a nil value of one interface type handed on as a value of another")
        | _ => storeVar dst a val
      else storeVar dst a (.iface src val)
    else panicString ("reflectlite.Set: value of type " ++ (← Rtype.spelt src) ++ " is not assignable to type " ++ (← Rtype.spelt dst))
    pure (.tuple #[])) := rfl
theorem Tryz.parts155a (a : Addr) (w : World) : (ReflectliteValue.parts (.agg #[.pointer (some ⟨4, 155, none⟩), .pointer (some a), .int .u64 409])).run Tryz.prog w = .ok (some (155, a, 409)) w := by kernel_rfl
theorem Tryz.parts155 (a : Addr) (w : World) : (ReflectliteValue.parts (.agg #[.pointer (some ⟨4, 155, none⟩), .pointer (some a), .int .u64 153])).run Tryz.prog w = .ok (some (155, a, 153)) w := by kernel_rfl
theorem Tryz.direct155 (w : World) : (Rtype.directlyAssignable 155 155).run Tryz.prog w = .ok true w := by kernel_rfl
theorem Tryz.size155 (w : World) : (sizeOf 155).run Tryz.prog w = .ok 1 w := by kernel_rfl
theorem Tryz.set155 (ta b : Addr) (c : Int) (old : Value) (W : World) (hb : W.cell? b = some (.int .i64 c)) (ht : W.cell? ta = some old) (hf : W.frozen? ta = false) :
    (ReflectliteValue.set #[.agg #[.pointer (some ⟨4, 155, none⟩), .pointer (some ta), .int .u64 409], .agg #[.pointer (some ⟨4, 155, none⟩), .pointer (some b), .int .u64 153]]).run Tryz.prog W
      = .ok (.tuple #[]) (W.setCell ta (.int .i64 c)) := by
  rw [rls]
  simp only [Sem.run_bind, Tryz.parts155a, Tryz.parts155, Result.andThen]
  simp [ReflectliteValue.flagAddr, loadVar, isAgg, underlying, Tryz.underlying155, hb, Result.andThen, Tryz.direct155, loadCells, loadCellsFrom, storeVar, Value.cells, storeCells, Addr.add]
  rw [run_store Tryz.prog W ta _ _ (by rfl)]
  simp [ht, hf]
end Go.Proofs.YtgiiegppaleldaaGreatDoor

/- number: which denial it was. -/
namespace Go.Proofs.YtgiiegppaleldaaGreatDoor
open Go.RowKit Go.Extern.Stop Go.Stop Go.Extern

/-- The handle of the type error lies in its variable. -/
def Gl (w : World) : Prop := w.cell? ⟨0, 0, none⟩ = some (.iface 224 (.agg #[.pointer (some ⟨4, 100, none⟩)]))
theorem Gl.lt {w : World} (h : Gl w) : 0 < w.heap.size := block_lt_of_cell (a := ⟨0, 0, none⟩) h
theorem Gl.alloc {w : World} (h : Gl w) (o : Obj) : Gl (w.alloc o) := by
  unfold Gl; rw [World.cell?_alloc_lt _ _ ⟨0, 0, none⟩ h.lt]; exact h
theorem Gl.fr {S : Nat → Prop} {w w' : World} (h : Gl w) (f : Fr S w w') (hs : ¬ S 0) : Gl w' := (f.cell (p := ⟨0, 0, none⟩) h.lt hs).trans h
theorem Gl.below {w w' : World} (h : Gl w) (f : Below w.heap.size w w') : Gl w' := h.fr (Fr.of_below f (fun _ => False)) (fun h => h)

theorem Tryz.lacksAs153 (v : Value) (xT : TypeId) (w : World) : (Instr.typeAssert (.iface 153 v) xT 229 true).run Tryz.prog w = .ok (.tuple #[.nilIface, .bool false]) w := run_typeAssert_lacksB Tryz.underlying229 (by kernel_rfl) (by kernel_rfl) v xT w
theorem Tryz.hasUnwrap153 (v : Value) (xT : TypeId) (w : World) : (Instr.typeAssert (.iface 153 v) xT 232 true).run Tryz.prog w = .ok (.tuple #[.iface 153 v, .bool true]) w := run_typeAssert_hasB Tryz.underlying232 (by kernel_rfl) v xT w

theorem number_nil (w : World) : Calls Tryz.prog 40 #[.nilIface] w fun e w' => e = .returned (.int .i64 0) ∧ Below w.heap.size w w' := by
  go_enter Tryz.func40, Tryz.ntmps40
  go_wp2
  go_ret
  refine ⟨rfl, ?_⟩
  repeat (first | exact Below.refl _ _ | refine Below.drew ?_ | refine Below.setCell ?_ (by simp <;> omega) _ | refine Below.alloc ?_ (by simp <;> omega) _)

set_option maxRecDepth 100000 in
set_option maxHeartbeats 8000000 in
theorem number_met1 (s : ByteArray) (c : Int) (w : World) (hg : Gl w) : Calls Tryz.prog 40 #[.iface 153 (.agg #[.string s, .iface 155 (.agg #[.int .i64 c])])] w fun e w' => e = .returned (.int .i64 c) ∧ Below w.heap.size w w' := by
  have h102 := @run_callFunc_extern Tryz.prog 102 _ (fun args => ReflectliteValue.unpack (args.getD 0 (.tuple #[]))) Tryz.func102 (by kernel_rfl) (by kernel_rfl) (by kernel_rfl) (by kernel_rfl)
  have h103 := @run_callFunc_extern Tryz.prog 103 _ (ReflectliteValue.methodAny (ReflectliteValue.valueError "reflectlite.Value.Type" 0) (fun t _ _ _ => ReflectliteType.toType t)) Tryz.func103 (by kernel_rfl) (by kernel_rfl) (by kernel_rfl) (by kernel_rfl)
  have h104 := @run_callFunc_extern Tryz.prog 104 _ (ReflectliteValue.method (ReflectliteValue.valueError "reflectlite.Value.IsNil" 0) ReflectliteValue.isNil) Tryz.func104 (by kernel_rfl) (by kernel_rfl) (by kernel_rfl) (by kernel_rfl)
  have h152 := @run_callFunc_extern Tryz.prog 152 _ (ReflectliteType.abiMethod fun t => do pure (.int .u8 (← Rtype.kind t))) Tryz.func152 (by kernel_rfl) (by kernel_rfl) (by kernel_rfl) (by kernel_rfl)
  have h164 := @run_callFunc_extern Tryz.prog 164 _ (ReflectliteType.method ReflectliteType.elem) Tryz.func164 (by kernel_rfl) (by kernel_rfl) (by kernel_rfl) (by kernel_rfl)
  have h165 := @run_callFunc_extern Tryz.prog 165 _ (ReflectliteType.relation "Implements" ReflectliteType.implements_) Tryz.func165 (by kernel_rfl) (by kernel_rfl) (by kernel_rfl) (by kernel_rfl)
  have h118 := @run_callFunc_extern Tryz.prog 118 _ ReflectliteType.typeOf Tryz.func118 (by kernel_rfl) (by kernel_rfl) (by kernel_rfl) (by kernel_rfl)
  have h162 := @run_callFunc_extern Tryz.prog 162 _ (ReflectliteType.relation "AssignableTo" ReflectliteType.assignableTo) Tryz.func162 (by kernel_rfl) (by kernel_rfl) (by kernel_rfl) (by kernel_rfl)
  have h119 := @run_callFunc_extern Tryz.prog 119 _ (ReflectliteValue.method (ReflectliteValue.valueError "reflectlite.Value.Elem" 0) ReflectliteValue.elem) Tryz.func119 (by kernel_rfl) (by kernel_rfl) (by kernel_rfl) (by kernel_rfl)
  have h120 := @run_callFunc_extern Tryz.prog 120 _ ReflectliteValue.set Tryz.func120 (by kernel_rfl) (by kernel_rfl) (by kernel_rfl) (by kernel_rfl)
  have tO := Tryz.typeOf155
  have tO3 := Tryz.typeOf153
  have mA := Tryz.methodAssignableTo
  have mU := Tryz.methodUnwrap
  have a5 := Tryz.assignable155
  have a3 := Tryz.assignable153
  have v5 := Tryz.valueOf155
  have f6 := Tryz.valueOf157
  have f7 := Tryz.type157
  have mK := Tryz.methodKind
  have mE := Tryz.methodElem
  have mI := Tryz.methodImplements
  have k7 := Tryz.kind157
  have k5 := Tryz.kind155
  have e7 := Tryz.elem157
  have i5 := Tryz.implements155
  have lA := Tryz.lacksAs153
  have hU := Tryz.hasUnwrap153
  have n8 := Tryz.isNil157 ⟨w.heap.size + 1, 0, none⟩ ⟨w.heap.size, 0, none⟩ (((w.alloc (.cells #[.int .i64 0] 155)).alloc (.cells #[.pointer (some ⟨w.heap.size, 0, none⟩)] 157)).alloc (.cells #[.pointer (some ⟨4, 157, none⟩), .pointer (some ⟨w.heap.size + 1, 0, none⟩), .int .u64 150] 194)) (by rw [World.cell?_alloc_lt _ _ ⟨w.heap.size + 1, 0, none⟩ (by simp <;> omega)]; rw [World.cell?_alloc_at _ _ _ _ (by simp <;> omega)]; rfl)
  have hg2 : (((w.alloc (.cells #[.int .i64 0] 155)).alloc (.cells #[.pointer (some ⟨w.heap.size, 0, none⟩)] 157)).alloc (.cells #[.pointer (some ⟨4, 157, none⟩), .pointer (some ⟨w.heap.size + 1, 0, none⟩), .int .u64 150] 194)).cell? ⟨0, 0, none⟩ = some (.iface 224 (.agg #[.pointer (some ⟨4, 100, none⟩)])) := ((hg.alloc _).alloc _).alloc _
  have el := Tryz.elemV157 ⟨w.heap.size + 1, 0, none⟩ ⟨w.heap.size, 0, none⟩ (((((w.alloc (.cells #[.int .i64 0] 155)).alloc (.cells #[.pointer (some ⟨w.heap.size, 0, none⟩)] 157)).alloc (.cells #[.pointer (some ⟨4, 157, none⟩), .pointer (some ⟨w.heap.size + 1, 0, none⟩), .int .u64 150] 194)).alloc (.cells #[.pointer (some ⟨4, 157, none⟩), .pointer (some ⟨w.heap.size + 1, 0, none⟩), .int .u64 150] 194)).alloc (.cells #[.string s, .iface 155 (.agg #[.int .i64 c])] 153)) (by
    rw [World.cell?_alloc_lt _ _ ⟨w.heap.size + 1, 0, none⟩ (by simp <;> omega)]; rw [World.cell?_alloc_lt _ _ ⟨w.heap.size + 1, 0, none⟩ (by simp <;> omega)]; rw [World.cell?_alloc_lt _ _ ⟨w.heap.size + 1, 0, none⟩ (by simp <;> omega)]
    rw [World.cell?_alloc_at _ _ _ _ (by simp <;> omega)]; rfl)
  have st := Tryz.set155 ⟨w.heap.size, 0, none⟩ ⟨w.heap.size + 1 + 1 + 1 + 1 + 1, 0, none⟩ c (.int .i64 0) ((((((w.alloc (.cells #[.int .i64 0] 155)).alloc (.cells #[.pointer (some ⟨w.heap.size, 0, none⟩)] 157)).alloc (.cells #[.pointer (some ⟨4, 157, none⟩), .pointer (some ⟨w.heap.size + 1, 0, none⟩), .int .u64 150] 194)).alloc (.cells #[.pointer (some ⟨4, 157, none⟩), .pointer (some ⟨w.heap.size + 1, 0, none⟩), .int .u64 150] 194)).alloc (.cells #[.string s, .iface 155 (.agg #[.int .i64 c])] 153)).alloc (.cells #[.int .i64 c] 155))
    (by rw [World.cell?_alloc_at _ _ _ _ (by simp <;> omega)]; rfl)
    (by rw [World.cell?_alloc_lt _ _ ⟨w.heap.size, 0, none⟩ (by simp <;> omega)]; rw [World.cell?_alloc_lt _ _ ⟨w.heap.size, 0, none⟩ (by simp <;> omega)]; rw [World.cell?_alloc_lt _ _ ⟨w.heap.size, 0, none⟩ (by simp <;> omega)]; rw [World.cell?_alloc_lt _ _ ⟨w.heap.size, 0, none⟩ (by simp <;> omega)]; rw [World.cell?_alloc_lt _ _ ⟨w.heap.size, 0, none⟩ (by simp <;> omega)]; rw [World.cell?_alloc_at _ _ _ _ (by simp <;> omega)]; rfl)
    (by rw [World.frozen?_alloc_old _ _ ⟨w.heap.size, 0, none⟩ (by simp <;> omega)]; rw [World.frozen?_alloc_old _ _ ⟨w.heap.size, 0, none⟩ (by simp <;> omega)]; rw [World.frozen?_alloc_old _ _ ⟨w.heap.size, 0, none⟩ (by simp <;> omega)]; rw [World.frozen?_alloc_old _ _ ⟨w.heap.size, 0, none⟩ (by simp <;> omega)]; rw [World.frozen?_alloc_old _ _ ⟨w.heap.size, 0, none⟩ (by simp <;> omega)]; simp)
  go_enter Tryz.func40, Tryz.ntmps40
  go_wp2
  refine wp_loop_rounds 2 ?_
  rw [rounds_succ]
  go_wp2
  rw [rounds_succ]
  go_wp2
  go_ret
  refine ⟨rfl, ?_⟩
  repeat (first | exact Below.refl _ _ | refine Below.drew ?_ | refine Below.setCell ?_ (by simp <;> omega) _ | refine Below.alloc ?_ (by simp <;> omega) _)

set_option maxRecDepth 100000 in
set_option maxHeartbeats 8000000 in
theorem number_met2 (s s2 : ByteArray) (c : Int) (w : World) (hg : Gl w) : Calls Tryz.prog 40 #[.iface 153 (.agg #[.string s, .iface 153 (.agg #[.string s2, .iface 155 (.agg #[.int .i64 c])])])] w fun e w' => e = .returned (.int .i64 c) ∧ Below w.heap.size w w' := by
  have h102 := @run_callFunc_extern Tryz.prog 102 _ (fun args => ReflectliteValue.unpack (args.getD 0 (.tuple #[]))) Tryz.func102 (by kernel_rfl) (by kernel_rfl) (by kernel_rfl) (by kernel_rfl)
  have h103 := @run_callFunc_extern Tryz.prog 103 _ (ReflectliteValue.methodAny (ReflectliteValue.valueError "reflectlite.Value.Type" 0) (fun t _ _ _ => ReflectliteType.toType t)) Tryz.func103 (by kernel_rfl) (by kernel_rfl) (by kernel_rfl) (by kernel_rfl)
  have h104 := @run_callFunc_extern Tryz.prog 104 _ (ReflectliteValue.method (ReflectliteValue.valueError "reflectlite.Value.IsNil" 0) ReflectliteValue.isNil) Tryz.func104 (by kernel_rfl) (by kernel_rfl) (by kernel_rfl) (by kernel_rfl)
  have h152 := @run_callFunc_extern Tryz.prog 152 _ (ReflectliteType.abiMethod fun t => do pure (.int .u8 (← Rtype.kind t))) Tryz.func152 (by kernel_rfl) (by kernel_rfl) (by kernel_rfl) (by kernel_rfl)
  have h164 := @run_callFunc_extern Tryz.prog 164 _ (ReflectliteType.method ReflectliteType.elem) Tryz.func164 (by kernel_rfl) (by kernel_rfl) (by kernel_rfl) (by kernel_rfl)
  have h165 := @run_callFunc_extern Tryz.prog 165 _ (ReflectliteType.relation "Implements" ReflectliteType.implements_) Tryz.func165 (by kernel_rfl) (by kernel_rfl) (by kernel_rfl) (by kernel_rfl)
  have h118 := @run_callFunc_extern Tryz.prog 118 _ ReflectliteType.typeOf Tryz.func118 (by kernel_rfl) (by kernel_rfl) (by kernel_rfl) (by kernel_rfl)
  have h162 := @run_callFunc_extern Tryz.prog 162 _ (ReflectliteType.relation "AssignableTo" ReflectliteType.assignableTo) Tryz.func162 (by kernel_rfl) (by kernel_rfl) (by kernel_rfl) (by kernel_rfl)
  have h119 := @run_callFunc_extern Tryz.prog 119 _ (ReflectliteValue.method (ReflectliteValue.valueError "reflectlite.Value.Elem" 0) ReflectliteValue.elem) Tryz.func119 (by kernel_rfl) (by kernel_rfl) (by kernel_rfl) (by kernel_rfl)
  have h120 := @run_callFunc_extern Tryz.prog 120 _ ReflectliteValue.set Tryz.func120 (by kernel_rfl) (by kernel_rfl) (by kernel_rfl) (by kernel_rfl)
  have tO := Tryz.typeOf155
  have tO3 := Tryz.typeOf153
  have mA := Tryz.methodAssignableTo
  have mU := Tryz.methodUnwrap
  have a5 := Tryz.assignable155
  have a3 := Tryz.assignable153
  have v5 := Tryz.valueOf155
  have f6 := Tryz.valueOf157
  have f7 := Tryz.type157
  have mK := Tryz.methodKind
  have mE := Tryz.methodElem
  have mI := Tryz.methodImplements
  have k7 := Tryz.kind157
  have k5 := Tryz.kind155
  have e7 := Tryz.elem157
  have i5 := Tryz.implements155
  have lA := Tryz.lacksAs153
  have hU := Tryz.hasUnwrap153
  have n8 := Tryz.isNil157 ⟨w.heap.size + 1, 0, none⟩ ⟨w.heap.size, 0, none⟩ (((w.alloc (.cells #[.int .i64 0] 155)).alloc (.cells #[.pointer (some ⟨w.heap.size, 0, none⟩)] 157)).alloc (.cells #[.pointer (some ⟨4, 157, none⟩), .pointer (some ⟨w.heap.size + 1, 0, none⟩), .int .u64 150] 194)) (by rw [World.cell?_alloc_lt _ _ ⟨w.heap.size + 1, 0, none⟩ (by simp <;> omega)]; rw [World.cell?_alloc_at _ _ _ _ (by simp <;> omega)]; rfl)
  have hg2 : (((w.alloc (.cells #[.int .i64 0] 155)).alloc (.cells #[.pointer (some ⟨w.heap.size, 0, none⟩)] 157)).alloc (.cells #[.pointer (some ⟨4, 157, none⟩), .pointer (some ⟨w.heap.size + 1, 0, none⟩), .int .u64 150] 194)).cell? ⟨0, 0, none⟩ = some (.iface 224 (.agg #[.pointer (some ⟨4, 100, none⟩)])) := ((hg.alloc _).alloc _).alloc _
  have el := Tryz.elemV157 ⟨w.heap.size + 1, 0, none⟩ ⟨w.heap.size, 0, none⟩ ((((((w.alloc (.cells #[.int .i64 0] 155)).alloc (.cells #[.pointer (some ⟨w.heap.size, 0, none⟩)] 157)).alloc (.cells #[.pointer (some ⟨4, 157, none⟩), .pointer (some ⟨w.heap.size + 1, 0, none⟩), .int .u64 150] 194)).alloc (.cells #[.pointer (some ⟨4, 157, none⟩), .pointer (some ⟨w.heap.size + 1, 0, none⟩), .int .u64 150] 194)).alloc (.cells #[.string s, .iface 153 (.agg #[.string s2, .iface 155 (.agg #[.int .i64 c])])] 153)).alloc (.cells #[.string s2, .iface 155 (.agg #[.int .i64 c])] 153)) (by
    rw [World.cell?_alloc_lt _ _ ⟨w.heap.size + 1, 0, none⟩ (by simp <;> omega)]; rw [World.cell?_alloc_lt _ _ ⟨w.heap.size + 1, 0, none⟩ (by simp <;> omega)]; rw [World.cell?_alloc_lt _ _ ⟨w.heap.size + 1, 0, none⟩ (by simp <;> omega)]; rw [World.cell?_alloc_lt _ _ ⟨w.heap.size + 1, 0, none⟩ (by simp <;> omega)]
    rw [World.cell?_alloc_at _ _ _ _ (by simp <;> omega)]; rfl)
  have st := Tryz.set155 ⟨w.heap.size, 0, none⟩ ⟨w.heap.size + 1 + 1 + 1 + 1 + 1 + 1, 0, none⟩ c (.int .i64 0) (((((((w.alloc (.cells #[.int .i64 0] 155)).alloc (.cells #[.pointer (some ⟨w.heap.size, 0, none⟩)] 157)).alloc (.cells #[.pointer (some ⟨4, 157, none⟩), .pointer (some ⟨w.heap.size + 1, 0, none⟩), .int .u64 150] 194)).alloc (.cells #[.pointer (some ⟨4, 157, none⟩), .pointer (some ⟨w.heap.size + 1, 0, none⟩), .int .u64 150] 194)).alloc (.cells #[.string s, .iface 153 (.agg #[.string s2, .iface 155 (.agg #[.int .i64 c])])] 153)).alloc (.cells #[.string s2, .iface 155 (.agg #[.int .i64 c])] 153)).alloc (.cells #[.int .i64 c] 155))
    (by rw [World.cell?_alloc_at _ _ _ _ (by simp <;> omega)]; rfl)
    (by rw [World.cell?_alloc_lt _ _ ⟨w.heap.size, 0, none⟩ (by simp <;> omega)]; rw [World.cell?_alloc_lt _ _ ⟨w.heap.size, 0, none⟩ (by simp <;> omega)]; rw [World.cell?_alloc_lt _ _ ⟨w.heap.size, 0, none⟩ (by simp <;> omega)]; rw [World.cell?_alloc_lt _ _ ⟨w.heap.size, 0, none⟩ (by simp <;> omega)]; rw [World.cell?_alloc_lt _ _ ⟨w.heap.size, 0, none⟩ (by simp <;> omega)]; rw [World.cell?_alloc_lt _ _ ⟨w.heap.size, 0, none⟩ (by simp <;> omega)]; rw [World.cell?_alloc_at _ _ _ _ (by simp <;> omega)]; rfl)
    (by rw [World.frozen?_alloc_old _ _ ⟨w.heap.size, 0, none⟩ (by simp <;> omega)]; rw [World.frozen?_alloc_old _ _ ⟨w.heap.size, 0, none⟩ (by simp <;> omega)]; rw [World.frozen?_alloc_old _ _ ⟨w.heap.size, 0, none⟩ (by simp <;> omega)]; rw [World.frozen?_alloc_old _ _ ⟨w.heap.size, 0, none⟩ (by simp <;> omega)]; rw [World.frozen?_alloc_old _ _ ⟨w.heap.size, 0, none⟩ (by simp <;> omega)]; rw [World.frozen?_alloc_old _ _ ⟨w.heap.size, 0, none⟩ (by simp <;> omega)]; simp)
  go_enter Tryz.func40, Tryz.ntmps40
  go_wp2
  refine wp_loop_rounds 3 ?_
  rw [rounds_succ]
  go_wp2
  rw [rounds_succ]
  go_wp2
  rw [rounds_succ]
  go_wp2
  go_ret
  refine ⟨rfl, ?_⟩
  repeat (first | exact Below.refl _ _ | refine Below.drew ?_ | refine Below.setCell ?_ (by simp <;> omega) _ | refine Below.alloc ?_ (by simp <;> omega) _)
end Go.Proofs.YtgiiegppaleldaaGreatDoor
