import Derived.Test.YtnpjldffciociaaGreatDoorB26
namespace Go.Proofs.YtnpjldffciociaaGreatDoor
open Go.RowKit

/-- Texts in a row, with another between them. -/
def jnL (c : List UInt8) : List (List UInt8) → List UInt8
  | [] => []
  | [x] => x
  | x :: y :: r => x ++ c ++ jnL c (y :: r)
theorem libjoin_len (M : Nat) : ∀ (l : List (List UInt8)), (∀ x ∈ l, x.length ≤ M) → (jnL [32] l).length ≤ l.length * (M + 1) := by
  intro l
  induction l with
  | nil => intro _; simp [jnL]
  | cons a r ih =>
    intro h
    have h1 := h a (by simp)
    cases r with
    | nil => simp [jnL]; omega
    | cons b r =>
      have h2 := ih (fun x hx => h x (by simp at hx ⊢; right; exact hx))
      simp only [jnL, List.length_append, List.length_cons, List.length_nil] at *
      have : (r.length + 1 + 1) * (M + 1) = (r.length + 1) * (M + 1) + (M + 1) := by rw [Nat.add_mul, Nat.one_mul]
      omega
theorem libjoin_eq (c : List UInt8) (l : List (List UInt8)) : Lib.join l c = jnL c l := by
  induction l with
  | nil => rfl
  | cons a r ih =>
    cases r with
    | nil => simp [Lib.join, jnL, List.intercalate]
    | cons b r =>
      rw [jnL, ← ih]
      simp [Lib.join, List.intercalate]
/-- Some of the reader's words in a row. -/
theorem pwords (w0 w : World) (vs : Value) (ws : List (List UInt8)) (taken : Nat) (errno : Int) (rule : Bool) (wb i j cap : Nat) (h : RX w0 w vs (.slice (some ⟨wb, 0, none⟩) ws.length ws.length) ws taken errno rule) (hij : i < j) (hj : j ≤ ws.length) (hcap : j - i ≤ cap) :
    Calls Tryz.prog 102 #[.slice (some ⟨wb, i, none⟩) (j - i) cap, .string ⟨#[32]⟩] w fun e w' => ∃ S : ByteArray, e = .returned (.string S) ∧ S.size ≤ 1100000000000 ∧ Below w.heap.size w w' := by
  obtain ⟨a, cap', he, hr⟩ := h.reads
  simp at he
  obtain ⟨rfl, _⟩ := he
  have hlen := h.len
  have hxl : (((ws.drop i).take (j - i)).map bs).length = j - i := by simp; omega
  have hmem : ∀ x ∈ (ws.drop i).take (j - i), x.length ≤ 1048577 := fun x hx => h.short x (List.mem_of_mem_drop (List.mem_of_mem_take hx))
  have hwb : wb < w.heap.size := by
    obtain ⟨b, off, hb, _, hlt, _⟩ := hr i (.string (bs (ws[i]'(by omega)))) (by simp [show i < ws.length by omega])
    simp at hb; obtain ⟨rfl, _⟩ := hb; exact hlt
  have hjl : (Lib.join ((((ws.drop i).take (j - i)).map bs).map (·.data.toList)) [32]).length ≤ 1100000000000 := by
    have e1 : (((ws.drop i).take (j - i)).map bs).map (·.data.toList) = (ws.drop i).take (j - i) := by
      rw [List.map_map]
      exact (List.map_congr_left (fun x _ => rfl)).trans (List.map_id _)
    rw [e1, libjoin_eq]
    have h1 := libjoin_len 1048577 _ hmem
    have h2 : ((ws.drop i).take (j - i)).length ≤ 1048577 := by simp; omega
    have h3 : ((ws.drop i).take (j - i)).length * (1048577 + 1) ≤ 1048577 * (1048577 + 1) := Nat.mul_le_mul_right _ h2
    omega
  have := Tryz.strings_Join wb i cap (((ws.drop i).take (j - i)).map bs) ⟨#[32]⟩ w (fun q x hx => by
    rw [List.getElem?_map] at hx
    cases hxj : ((ws.drop i).take (j - i))[q]? with
    | none => rw [hxj] at hx; cases hx
    | some l =>
      rw [hxj] at hx
      cases hx
      have hq : ws[i + q]? = some l := by
        rw [List.getElem?_take] at hxj
        split at hxj
        · rw [List.getElem?_drop] at hxj; exact hxj
        · cases hxj
      obtain ⟨b, off, hb, _, _, hc⟩ := hr (i + q) (.string (bs l)) (by rw [List.getElem?_map, hq]; rfl)
      simp at hb
      obtain ⟨rfl, rfl⟩ := hb
      rw [Nat.zero_add] at hc
      exact hc) hwb (by rw [hxl]; omega) (by rw [hxl]; exact hcap) (Nat.le_trans (m := 1100000000000) hjl (by decide))
  rw [hxl] at this
  refine this.mono ?_
  rintro e w' ⟨rfl, hb⟩
  refine ⟨_, rfl, ?_, hb⟩
  rw [show ((⟨#[32]⟩ : ByteArray).data.toList) = [32] from rfl]
  simpa [ByteArray.size] using hjl
end Go.Proofs.YtnpjldffciociaaGreatDoor
