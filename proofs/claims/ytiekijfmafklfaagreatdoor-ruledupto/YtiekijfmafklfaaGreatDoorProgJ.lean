import Derived.Test.YtiekijfmafklfaaGreatDoorProgI
namespace Go.Proofs.YtiekijfmafklfaaGreatDoor
open Go.RowKit Go.Lib

theorem three_set {W : World} {h : Nat} {x y z a b c : Value} (h0 : W.cell? ⟨h, 0, none⟩ = some a) (h1 : W.cell? ⟨h, 1, none⟩ = some b) (h2 : W.cell? ⟨h, 2, none⟩ = some c) :
    (((W.setCell ⟨h, 0, none⟩ x).setCell ⟨h, 1, none⟩ y).setCell ⟨h, 2, none⟩ z).cell? ⟨h, 0, none⟩ = some x ∧ (((W.setCell ⟨h, 0, none⟩ x).setCell ⟨h, 1, none⟩ y).setCell ⟨h, 2, none⟩ z).cell? ⟨h, 1, none⟩ = some y ∧ (((W.setCell ⟨h, 0, none⟩ x).setCell ⟨h, 1, none⟩ y).setCell ⟨h, 2, none⟩ z).cell? ⟨h, 2, none⟩ = some z := by
  have k0 : (W.setCell ⟨h, 0, none⟩ x).cell? ⟨h, 0, none⟩ = some x := World.cell?_setCell_same _ _ _ h0
  have k1 : (W.setCell ⟨h, 0, none⟩ x).cell? ⟨h, 1, none⟩ = some b := by
    rw [World.cell?_setCell_other]
    · exact h1
    · simp
  have k2 : ((W.setCell ⟨h, 0, none⟩ x).setCell ⟨h, 1, none⟩ y).cell? ⟨h, 2, none⟩ = some c := by
    rw [World.cell?_setCell_other, World.cell?_setCell_other]
    · exact h2
    · simp
    · simp
  refine ⟨?_, ?_, World.cell?_setCell_same _ _ _ k2⟩
  · rw [World.cell?_setCell_other, World.cell?_setCell_other]
    · exact k0
    · simp
    · simp
  · rw [World.cell?_setCell_other]
    · exact World.cell?_setCell_same _ _ _ k1
    · simp

/-- What readValue answers. -/
def PVal (k : Option Bool) (e : Ending) : Prop := ∃ (t n : Int) (S : ByteArray), e = .returned (.tuple #[.agg #[.int .i64 t, .int .i64 n, .string S], .bool k.isSome]) ∧ ∀ b, k = some b → t = tnum b

set_option maxRecDepth 10000 in
set_option maxHeartbeats 2000000 in
theorem pReadValue_any (s : ByteArray) (w : World) (hs : s.size ≤ 1048577) (hg : Glob w) :
    Calls Tryz.prog 110 #[.string s] w fun e w' => PVal (valKind s.data.toList) e ∧ Below w.heap.size w w' := by
  have hn := fun o => readNumber_any s (w.alloc o) hs (hg.kept ((Below.refl _ _).alloc (Nat.le_refl _) o))
  have ht := fun W => readText_any s W hs
  obtain ⟨kk, HK⟩ : ∃ kk, Hid (valKind s.data.toList = kk) := exHid _
  rw [HK.out]
  cases hnum : isNum s.data.toList
  · rw [hnum] at hn
    cases htx : isTextL s.data.toList
    · rw [htx] at ht
      have hk : none = kk := by rw [← HK.out]; simp [valKind, hnum, htx]
      subst hk
      clear HK hnum htx hg
      go_enter Tryz.func110, Tryz.ntmps110
      go_wp2_with (first
        | (go_at_call 120; refine (hn _).mono ?_; rintro e W ⟨⟨n, rfl⟩, hbW⟩; obtain ⟨hcc, hff⟩ := bcell hbW; have hz : w.heap.size + 1 ≤ W.heap.size := (by have := hbW.size; simp at this; omega))
        | (go_at_call 121; refine (ht _).mono ?_; rintro e w' ⟨⟨S, rfl⟩, hw⟩; obtain rfl := hw.symm))
      have k0 : W.cell? ⟨w.heap.size, 0, none⟩ = some (.int .i64 0) := (hcc w.heap.size 0 (by simp)).trans (by simp)
      have k1 : W.cell? ⟨w.heap.size, 1, none⟩ = some (.int .i64 0) := (hcc w.heap.size 1 (by simp)).trans (by simp)
      have k2 : W.cell? ⟨w.heap.size, 2, none⟩ = some (.string ⟨#[]⟩) := (hcc w.heap.size 2 (by simp)).trans (by simp)
      obtain ⟨e0, e1, e2⟩ := three_set (W := W) (h := w.heap.size) (x := .int .i64 0) (y := .int .i64 0) (z := .string ⟨#[]⟩) k0 k1 k2
      refine bodyPost_ret (v := .tuple #[.agg #[.int .i64 0, .int .i64 0, .string ⟨#[]⟩], .bool false]) (by simp [results, Tryz.results110, go_sem, e0, e1, e2]) rfl ⟨⟨_, _, _, rfl, fun b h => by cases h⟩, ?_⟩
      exact (((((Below.refl _ _).alloc (Nat.le_refl _) _).trans (hbW.mono (by simp))).setCell (by simp) _).setCell (by simp) _).setCell (by simp) _
    · rw [htx] at ht
      have hk : some true = kk := by rw [← HK.out]; simp [valKind, hnum, htx]
      subst hk
      clear HK hnum htx hg
      go_enter Tryz.func110, Tryz.ntmps110
      go_wp2_with (first
        | (go_at_call 120; refine (hn _).mono ?_; rintro e W ⟨⟨n, rfl⟩, hbW⟩; obtain ⟨hcc, hff⟩ := bcell hbW; have hz : w.heap.size + 1 ≤ W.heap.size := (by have := hbW.size; simp at this; omega))
        | (go_at_call 121; refine (ht _).mono ?_; rintro e w' ⟨⟨S, rfl⟩, hw⟩; obtain rfl := hw.symm))
      have k0 : W.cell? ⟨w.heap.size, 0, none⟩ = some (.int .i64 0) := (hcc w.heap.size 0 (by simp)).trans (by simp)
      have k1 : W.cell? ⟨w.heap.size, 1, none⟩ = some (.int .i64 0) := (hcc w.heap.size 1 (by simp)).trans (by simp)
      have k2 : W.cell? ⟨w.heap.size, 2, none⟩ = some (.string ⟨#[]⟩) := (hcc w.heap.size 2 (by simp)).trans (by simp)
      obtain ⟨e0, e1, e2⟩ := three_set (W := W) (h := w.heap.size) (x := .int .i64 2) (y := .int .i64 0) (z := .string S) k0 k1 k2
      refine bodyPost_ret (v := .tuple #[.agg #[.int .i64 2, .int .i64 0, .string S], .bool true]) (by simp [results, Tryz.results110, go_sem, e0, e1, e2]) rfl ⟨⟨_, _, _, rfl, fun b h => by cases h; rfl⟩, ?_⟩
      exact (((((Below.refl _ _).alloc (Nat.le_refl _) _).trans (hbW.mono (by simp))).setCell (by simp) _).setCell (by simp) _).setCell (by simp) _
  · rw [hnum] at hn
    have hk : some false = kk := by rw [← HK.out]; simp [valKind, hnum]
    subst hk
    clear HK hnum hg
    go_enter Tryz.func110, Tryz.ntmps110
    go_wp2_with (first
      | (go_at_call 120; refine (hn _).mono ?_; rintro e W ⟨⟨n, rfl⟩, hbW⟩; obtain ⟨hcc, hff⟩ := bcell hbW; have hz : w.heap.size + 1 ≤ W.heap.size := (by have := hbW.size; simp at this; omega))
      | (go_at_call 121; refine (ht _).mono ?_; rintro e w' ⟨⟨S, rfl⟩, hw⟩; obtain rfl := hw.symm))
    have k0 : W.cell? ⟨w.heap.size, 0, none⟩ = some (.int .i64 0) := (hcc w.heap.size 0 (by simp)).trans (by simp)
    have k1 : W.cell? ⟨w.heap.size, 1, none⟩ = some (.int .i64 0) := (hcc w.heap.size 1 (by simp)).trans (by simp)
    have k2 : W.cell? ⟨w.heap.size, 2, none⟩ = some (.string ⟨#[]⟩) := (hcc w.heap.size 2 (by simp)).trans (by simp)
    obtain ⟨e0, e1, e2⟩ := three_set (W := W) (h := w.heap.size) (x := .int .i64 1) (y := .int .i64 n) (z := .string ⟨#[]⟩) k0 k1 k2
    refine bodyPost_ret (v := .tuple #[.agg #[.int .i64 1, .int .i64 n, .string ⟨#[]⟩], .bool true]) (by simp [results, Tryz.results110, go_sem, e0, e1, e2]) rfl ⟨⟨_, _, _, rfl, fun b h => by cases h; rfl⟩, ?_⟩
    exact (((((Below.refl _ _).alloc (Nat.le_refl _) _).trans (hbW.mono (by simp))).setCell (by simp) _).setCell (by simp) _).setCell (by simp) _
end Go.Proofs.YtiekijfmafklfaaGreatDoor
