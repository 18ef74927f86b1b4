import Derived.Test.YtnpjldffciociaaGreatDoorB01
import Derived.Handy
import Derived.LaidEql
import Derived.Stop.Asserts
import Derived.RowKitTokens
namespace Go.Proofs.YtnpjldffciociaaGreatDoor
open Go.RowKit Go.Extern.Stop Go.Stop Go.Extern

/-! CLOSED FACTS ON THE MODEL's ENTRIES FOR internal/reflectlite, at this program's types (after the guide's worked text on errors.As) -/
theorem Tryz.rValueOfPP (t : Addr) (w : World) : (ReflectliteValue.unpack (.iface 177 (.pointer (some t)))).run Tryz.prog w
    = .ok (.agg #[.pointer (some ⟨9, 177, none⟩), .pointer (some ⟨w.heap.size, 0, none⟩), .int .u64 150]) (w.alloc (.cells #[.pointer (some t)] 177)) := by kernel_rfl
theorem Tryz.rTypePP (a : Addr) (w : World) : (ReflectliteValue.methodAny (ReflectliteValue.valueError "reflectlite.Value.Type" 0) (fun t _ _ _ => ReflectliteType.toType t) #[.agg #[.pointer (some ⟨9, 177, none⟩), .pointer (some a), .int .u64 150]]).run Tryz.prog w
    = .ok (.iface 316 (.agg #[.pointer (some ⟨9, 177, none⟩)])) w := by kernel_rfl
theorem Tryz.rKindPP (w : World) : ((ReflectliteType.abiMethod fun t => Functor.map (fun a : Nat => Value.int IntKind.u8 (a : Int)) (Rtype.kind t)) #[.pointer (some ⟨9, 177, none⟩)]).run Tryz.prog w = .ok (.int .u8 22) w := by kernel_rfl
theorem Tryz.rKindP (w : World) : ((ReflectliteType.abiMethod fun t => Functor.map (fun a : Nat => Value.int IntKind.u8 (a : Int)) (Rtype.kind t)) #[.pointer (some ⟨9, 175, none⟩)]).run Tryz.prog w = .ok (.int .u8 22) w := by kernel_rfl
theorem Tryz.rPartsPP (a : Addr) (w : World) : (ReflectliteValue.parts (.agg #[.pointer (some ⟨9, 177, none⟩), .pointer (some a), .int .u64 150])).run Tryz.prog w = .ok (some (177, a, 150)) w := by kernel_rfl
theorem Tryz.rIsNil (a p : Addr) (W : World) (ha : W.cell? a = some (.pointer (some p))) :
    (ReflectliteValue.method (ReflectliteValue.valueError "reflectlite.Value.IsNil" 0) ReflectliteValue.isNil #[.agg #[.pointer (some ⟨9, 177, none⟩), .pointer (some a), .int .u64 150]]).run Tryz.prog W = .ok (.bool false) W := by
  show Sem.run _ (ReflectliteValue.parts (.agg #[.pointer (some ⟨9, 177, none⟩), .pointer (some a), .int .u64 150]) >>= _) _ = _
  simp only [Sem.run_bind, Tryz.rPartsPP, Result.andThen]
  simp [ReflectliteValue.isNil, loadVar, isAgg, underlying, Tryz.underlying177, ha, Result.andThen]
theorem Tryz.rElemT (w : World) : (ReflectliteType.method ReflectliteType.elem #[.agg #[.pointer (some ⟨9, 177, none⟩)]]).run Tryz.prog w = .ok (.iface 316 (.agg #[.pointer (some ⟨9, 175, none⟩)])) w := by kernel_rfl
theorem Tryz.rImpl (w : World) : (ReflectliteType.relation "Implements" ReflectliteType.implements_ #[.agg #[.pointer (some ⟨9, 175, none⟩)], .iface 316 (.agg #[.pointer (some ⟨9, 100, none⟩)])]).run Tryz.prog w = .ok (.bool true) w := by kernel_rfl
theorem Tryz.rTypeOfF (v : Value) (w : World) : (ReflectliteType.typeOf #[.iface 175 v]).run Tryz.prog w = .ok (.iface 316 (.agg #[.pointer (some ⟨9, 175, none⟩)])) w := by kernel_rfl
theorem Tryz.rTypeOfP (v : Value) (w : World) : (ReflectliteType.typeOf #[.iface 172 v]).run Tryz.prog w = .ok (.iface 316 (.agg #[.pointer (some ⟨9, 172, none⟩)])) w := by kernel_rfl
theorem Tryz.rAssF (w : World) : (ReflectliteType.relation "AssignableTo" ReflectliteType.assignableTo #[.agg #[.pointer (some ⟨9, 175, none⟩)], .iface 316 (.agg #[.pointer (some ⟨9, 175, none⟩)])]).run Tryz.prog w = .ok (.bool true) w := by kernel_rfl
theorem Tryz.rAssP (w : World) : (ReflectliteType.relation "AssignableTo" ReflectliteType.assignableTo #[.agg #[.pointer (some ⟨9, 172, none⟩)], .iface 316 (.agg #[.pointer (some ⟨9, 175, none⟩)])]).run Tryz.prog w = .ok (.bool false) w := by kernel_rfl
theorem Tryz.rValueOfF (e : Addr) (w : World) : (ReflectliteValue.unpack (.iface 175 (.pointer (some e)))).run Tryz.prog w
    = .ok (.agg #[.pointer (some ⟨9, 175, none⟩), .pointer (some ⟨w.heap.size, 0, none⟩), .int .u64 150]) (w.alloc (.cells #[.pointer (some e)] 175)) := by kernel_rfl
theorem Tryz.rElemOf (w : World) : (Rtype.elem? 177).run Tryz.prog w = .ok (some 175) w := by kernel_rfl
theorem Tryz.rMk (p : Addr) (w : World) : (ReflectliteValue.mk 175 p ReflectliteValue.flagAddr).run Tryz.prog w = .ok (.agg #[.pointer (some ⟨9, 175, none⟩), .pointer (some p), .int .u64 406]) w := by kernel_rfl
theorem Tryz.rElemV (a p : Addr) (W : World) (ha : W.cell? a = some (.pointer (some p))) :
    (ReflectliteValue.method (ReflectliteValue.valueError "reflectlite.Value.Elem" 0) ReflectliteValue.elem #[.agg #[.pointer (some ⟨9, 177, none⟩), .pointer (some a), .int .u64 150]]).run Tryz.prog W
      = .ok (.agg #[.pointer (some ⟨9, 175, none⟩), .pointer (some p), .int .u64 406]) W := by
  show Sem.run _ (ReflectliteValue.parts (.agg #[.pointer (some ⟨9, 177, none⟩), .pointer (some a), .int .u64 150]) >>= _) _ = _
  simp only [Sem.run_bind, Tryz.rPartsPP, Result.andThen]
  simp [ReflectliteValue.elem, loadVar, isAgg, underlying, Tryz.underlying177, ha, Result.andThen, Tryz.rElemOf, Tryz.rMk]
theorem Tryz.rPartsFa (a : Addr) (w : World) : (ReflectliteValue.parts (.agg #[.pointer (some ⟨9, 175, none⟩), .pointer (some a), .int .u64 406])).run Tryz.prog w = .ok (some (175, a, 406)) w := by kernel_rfl
theorem Tryz.rPartsF (a : Addr) (w : World) : (ReflectliteValue.parts (.agg #[.pointer (some ⟨9, 175, none⟩), .pointer (some a), .int .u64 150])).run Tryz.prog w = .ok (some (175, a, 150)) w := by kernel_rfl
theorem Tryz.rDirect (w : World) : (Rtype.directlyAssignable 175 175).run Tryz.prog w = .ok true w := by kernel_rfl
theorem Tryz.rSet (ta b e : Addr) (old : Value) (W : World) (hb : W.cell? b = some (.pointer (some e))) (ht : W.cell? ta = some old) (hf : W.frozen? ta = false) :
    (ReflectliteValue.set #[.agg #[.pointer (some ⟨9, 175, none⟩), .pointer (some ta), .int .u64 406], .agg #[.pointer (some ⟨9, 175, none⟩), .pointer (some b), .int .u64 150]]).run Tryz.prog W
      = .ok (.tuple #[]) (W.setCell ta (.pointer (some e))) := by
  show Sem.run _ (ReflectliteValue.parts (.agg #[.pointer (some ⟨9, 175, none⟩), .pointer (some ta), .int .u64 406]) >>= fun x => ReflectliteValue.parts (.agg #[.pointer (some ⟨9, 175, none⟩), .pointer (some b), .int .u64 150]) >>= _) _ = _
  simp only [Sem.run_bind, Tryz.rPartsFa, Tryz.rPartsF, Result.andThen]
  simp [ReflectliteValue.flagAddr, loadVar, isAgg, underlying, Tryz.underlying175, hb, Result.andThen, Tryz.rDirect, storeVar, Value.cells, storeCells, Addr.add]
  rw [run_store Tryz.prog W ta _ _ (by rfl)]
  simp [ht, hf]

end Go.Proofs.YtnpjldffciociaaGreatDoor
