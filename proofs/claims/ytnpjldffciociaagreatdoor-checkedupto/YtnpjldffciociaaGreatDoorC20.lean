import Derived.Test.YtnpjldffciociaaGreatDoorC19
import Derived.Test.YtnpjldffciociaaGreatDoorCards
import Derived.Test.YtnpjldffciociaaGreatDoorTie
import Derived.WalkKit
import Derived.ProofKit
import Derived.OpenShut
import Derived.ChangeMaps5
import Derived.Deep.DeepHandedRow
import Derived.Deep.DeepWitnessRowRef
import Derived.Stop.LaidErr
import Derived.LaidHandle
import Derived.Shelf.Vars
import Derived.Lay
namespace Go.Proofs.YtnpjldffciociaaGreatDoor
open Go.RowKit

set_option maxRecDepth 10000 in
theorem num_any (n : Int) (w : World) : Calls Tryz.prog 35 #[.int .i64 n] w fun e w' => e = .returned (.int .i64 n) ∧ w' = w := by
  go_enter Tryz.func35, Tryz.ntmps35
  go_wp2
  go_ret
  exact ⟨rfl, rfl⟩
set_option maxRecDepth 10000 in
set_option maxHeartbeats 1000000 in
theorem check_walk (a b : ByteArray) (l : List UInt8) (n : Int) (w : World)
    (h1 : Calls Tryz.prog 33 #[.string a, .string b] w fun e w' => e = .returned (.tuple #[.string (bs l), .int .i64 n]) ∧ Below w.heap.size w w')
    (h2 : ∀ w1, Calls Tryz.prog 34 #[.string a, .string b] w1 fun e w' => e = .returned (.tuple #[.string (bs l), .int .i64 n]) ∧ Below w1.heap.size w1 w') :
    Calls Tryz.prog 13 #[.string a, .string b] w fun e w' => e = .returned (.bool true) ∧ Below w.heap.size w w' := by
  have hn := num_any
  have hbs := bs_toList2
  go_enter Tryz.func13, Tryz.ntmps13
  go_wp2_with (first
    | (go_at_call 33; refine h1.mono ?_; rintro e w1 ⟨rfl, hb1⟩)
    | (go_at_call 34; refine (h2 _).mono ?_; rintro e w2 ⟨rfl, hb2⟩)
    | (go_at_call 35; refine (hn _ _).mono ?_; rintro e w' ⟨rfl, hw⟩; obtain rfl := hw.symm))
  go_ret
  exact ⟨by first | rfl | simp, hb1.trans (hb2.mono hb1.size)⟩
set_option maxRecDepth 10000 in
set_option maxHeartbeats 1000000 in
theorem checked_walk (a b : ByteArray) (w : World)
    (h1 : Calls Tryz.prog 13 #[.string a, .string b] w fun e w' => e = .returned (.bool true) ∧ Below w.heap.size w w') :
    Calls Tryz.prog 3 #[.string a, .string b] w fun e w' => e = .returned (.bool true) ∧ Below w.heap.size w w' := by
  go_enter Tryz.func3, Tryz.ntmps3
  go_wp2_with (go_at_call 13; refine h1.mono ?_; rintro e w1 ⟨rfl, hb1⟩)
  go_ret
  exact ⟨rfl, hb1⟩
/-- CHECKED, AT EVERY TWO TEXTS OF SIZE. -/
theorem checked_any (a b : ByteArray) (w : World) (ha : a.size ≤ 1048576) (hb : b.size ≤ 1048576) (hg : Glob w) :
    Calls Tryz.prog 3 #[.string a, .string b] w fun e w' => e = .returned (.bool true) ∧ Below w.heap.size w w' :=
  checked_walk a b w (check_walk a b _ _ w (check_any a b w ha hb hg) fun w1 => ref_check a b w1 ha hb)
end Go.Proofs.YtnpjldffciociaaGreatDoor
namespace Go.Proofs.YtnpjldffciociaaGreatDoor
open Go.ChangeShapes Go.WideShapes Go.ChangeAt Go.RowKit

theorem ru_own : ownKnob Tryz.prog.godebug = none := by kernel_rfl
theorem ru_et : Tryz.prog.globalNamed "errors.errorType" = some 0 := by kernel_rfl
theorem some_two {α : Type} {x : Option α} {a b : α} (h : x = some a) (h2 : x = some b) : a = b := Option.some.inj (h.symm.trans h2)
theorem ru_size : Tryz.prog.types.size = 611 := by kernel_rfl
theorem ru_gsize : Tryz.prog.globals.size = 9 := by kernel_rfl
theorem ru_oneRow : ((List.range 611).filter fun t => Tryz.prog.rowNamed t [101, 114, 114, 111, 114]) = [100] := by kernel_rfl
theorem ru_gS : Tryz.prog.globalNamed "strconv.ErrSyntax" = some 7 := by kernel_rfl
theorem ru_gR : Tryz.prog.globalNamed "strconv.ErrRange" = some 8 := by kernel_rfl
theorem ru_gST : (Tryz.prog.globals[7]?).map (·.type) = some 100 := by kernel_rfl
theorem ru_gRT : (Tryz.prog.globals[8]?).map (·.type) = some 100 := by kernel_rfl
theorem ru_cellsE : Tryz.prog.cellsOf 553 = 1 := by kernel_rfl
theorem ru_cells9 : Tryz.prog.cellsOf 9 = 1 := by kernel_rfl

/-- WHAT THE ROW's LIST AND THE WORLD's SHAPE GIVE. -/
theorem glob_of {W : World} (h : laidMetH Tryz.prog Rows.checkedUptoRow.laid W) (hS : W.ShapedOpen Tryz.prog) : Glob W := by
  obtain ⟨hl0, hh0⟩ := h
  have hl : laidMet Tryz.prog [_, _, _, _, _, _, _] W := hl0
  have hh : handlesMet Tryz.prog [_] W := hh0
  have hR := hl.tail.tail.tail.tail
  obtain ⟨a0, s0, hv0, _⟩ := laid_sentinel hR ru_gR ru_gRT Tryz.underlying100 (fun u h => typeName_ptr_named (nm := "errors.errorString") (by kernel_rfl) (by kernel_rfl) (by decide) u (h.trans (by first | kernel_rfl | decide))) Tryz.underlying551 Tryz.underlying553 rfl rfl Tryz.underlying9 ru_cellsE ru_cells9
  obtain ⟨a1, s1, hv1, _⟩ := laid_sentinel hR.tail ru_gS ru_gST Tryz.underlying100 (fun u h => typeName_ptr_named (nm := "errors.errorString") (by kernel_rfl) (by kernel_rfl) (by decide) u (h.trans (by first | kernel_rfl | decide))) Tryz.underlying551 Tryz.underlying553 rfl rfl Tryz.underlying9 ru_cellsE ru_cells9
  refine ⟨?_, ?_, ⟨_, _, by simpa using World.var?_cell ru_gS hv1 0⟩, ⟨_, _, by simpa using World.var?_cell ru_gR hv0 0⟩, ?_⟩
  · obtain ⟨name, u, ty, e1, e2, e3, e4, e5⟩ := hh _ (List.mem_singleton.2 rfl)
    have en : name = [101, 114, 114, 111, 114] := (Option.some.inj e1).symm
    subst en
    obtain rfl := some_two (a := 316) (by kernel_rfl) e2
    have hm : ty ∈ (List.range 611).filter fun t => Tryz.prog.rowNamed t [101, 114, 114, 111, 114] := List.mem_filter.2 ⟨List.mem_range.2 (by rw [← ru_size]; exact e3), e4⟩
    rw [ru_oneRow] at hm
    obtain rfl := List.mem_singleton.1 hm
    have ht : typeHandle Tryz.prog 100 = .pointer (some ⟨9, 100, none⟩) := by kernel_rfl
    rw [ht] at e5
    simpa using World.var?_cell ru_et e5 0
  · exact cell_of_shapedOpen_int (g := 1) (t := 3) (zero := #[.int .i64 0]) hS (by rw [ru_gsize]; decide) (by kernel_rfl) rfl (by kernel_rfl) (by kernel_rfl) Tryz.underlying3
  · obtain ⟨o, _, ho, _⟩ := hS.2 9 (by rw [ru_gsize]; decide) (of_decide_eq_true (by kernel_rfl))
    have := (Array.getElem?_eq_some_iff.1 ho).1
    omega

set_option maxRecDepth 100000 in
theorem checked_contract (H : Type) (enc : TypeId × Value → H) (W : World) (base : Nat) (args : Array Value) (ds gs : List (DataW H)) (before : List MemPlace)
    (hval : ∀ (j : Nat) t v, Tryz.f3.params[j]? = some t → args[j]? = some v → Value.okWide Tryz.prog W .any base t v)
    (hW : DataW.Whole enc Tryz.prog Tryz.f3.params.toList Rows.checkedSpec.vars false W args.toList ds gs before)
    (hk : Rows.uptoSmall H (ds ++ gs) = true) (hL : laidMetH Tryz.prog Rows.checkedUptoRow.laid W) (hS : W.ShapedOpen Tryz.prog) :
    Calls Tryz.prog 3 args W fun e W' => ∃ v, e = .returned v ∧ Rows.checkedSpec.post enc Tryz.prog Tryz.f3 false true false false W args v W' := by
  have hW' := hW
  obtain ⟨p, q, hA0, hV, rfl, hfz, hnd⟩ := hW
  have hA : DataW.TrodAll enc Tryz.prog W 0 (fun _ => true) true Tryz.f3.params.toList args.toList ds p := hA0
  rw [Tryz.params3] at hA hval
  obtain ⟨v0, vs0, d0, ds0, p0, q0, hargs, rfl, rfl, h0, r0⟩ := trodAll_cons hA
  obtain ⟨v1, vs1, d1, ds1, p1, q1, rfl, rfl, rfl, h1, r1⟩ := trodAll_cons r0
  obtain ⟨rfl, rfl, rfl⟩ := trodAll_nil r1
  obtain rfl : args = #[v0, v1] := by cases args; simp_all
  obtain ⟨rfl, rfl⟩ := trodVars_none hV
  obtain ⟨s0, rfl, rfl, rfl, w0⟩ := Go.ChangeMaps.open_string Tryz.underlying9 (hval 0 9 v0 rfl rfl) h0
  obtain ⟨s1, rfl, rfl, rfl, w1⟩ := Go.ChangeMaps.open_string Tryz.underlying9 (hval 1 9 v1 rfl rfl) h1
  clear hA0 hval hA
  have hk2 := of_decide_eq_true hk
  simp only [List.append_nil, Rows.uptoBulkAll, Rows.uptoBulk] at hk2
  simp only [List.append_nil] at hW'
  have hz0 : s0.size ≤ 1048576 := by
    have : s0.data.toList.length ≤ 1048576 := by omega
    simpa using this
  have hz1 : s1.size ≤ 1048576 := by
    have : s1.data.toList.length ≤ 1048576 := by omega
    simpa using this
  refine (checked_any s0 s1 W hz0 hz1 (glob_of hL hS)).mono fun e W' ⟨he, hb⟩ => ?_
  subst he
  refine ⟨_, rfl, ?_⟩
  refine ⟨_, _, _, [], [] ++ ([] ++ []), [], hW', ?_, ?_, rfl, hb.frame _, fun h => by cases h⟩
  · exact trodAll_mk1 (shut_bool Tryz.underlying4 true)
  · exact trodAll_cons_mk (Go.ChangeMaps.shut_string Tryz.underlying9 w0) (trodAll_cons_mk (Go.ChangeMaps.shut_string Tryz.underlying9 w1) trodAll_mk0)
end Go.Proofs.YtnpjldffciociaaGreatDoor
