/-
  Lists of vehicles that were registered one by one: they depend on their numbers alone.
-/
import Derived.Test.YtgafianhlobcfaaVm
namespace Go.Proofs.Ytgafianhlobcfaa
open Go.ChangeShapes Go.WideShapes Go.RowKit
set_option linter.unusedVariables false

theorem validF_lb : ∀ {V : List Ve} {m : Int}, validF m V = true → ∀ x ∈ V, m ≤ x.id
  | [], _, _, x, hx => by cases hx
  | y :: V, m, h, x, hx => by
    rw [validF_cons] at h
    rcases List.mem_cons.1 hx with rfl | hx
    · exact h.1.1
    · have := validF_lb h.2 x hx
      omega
theorem sorted_ext : ∀ {V V' : List Ve} {m m' : Int}, validF m V = true → validF m' V' = true → (∀ x, x ∈ V ↔ x ∈ V') → V = V'
  | [], [], _, _, _, _, _ => rfl
  | [], y :: V', _, _, _, _, h => absurd ((h y).2 (by simp)) (by simp)
  | x :: V, [], _, _, _, _, h => absurd ((h x).1 (by simp)) (by simp)
  | x :: V, y :: V', m, m', h1, h2, h => by
    rw [validF_cons] at h1 h2
    have l1 := validF_lb h1.2
    have l2 := validF_lb h2.2
    have hxy : x = y := by
      rcases List.mem_cons.1 ((h x).1 (by simp)) with e | hx
      · exact e
      · rcases List.mem_cons.1 ((h y).2 (by simp)) with e | hy
        · exact e.symm
        · have := l1 y hy; have := l2 x hx; omega
    subst hxy
    rw [sorted_ext h1.2 h2.2 (fun z => ?_)]
    constructor
    · intro hz
      rcases List.mem_cons.1 ((h z).1 (by simp [hz])) with e | hz'
      · subst e; have := l1 z hz; omega
      · exact hz'
    · intro hz
      rcases List.mem_cons.1 ((h z).2 (by simp [hz])) with e | hz'
      · subst e; have := l2 z hz; omega
      · exact hz'
theorem idxF_mem {id : Int} : ∀ {V : List Ve} {k : Nat} (x : Ve), x ∈ V → x.id = id → 0 ≤ idxF id V k
  | [], _, x, hx, _ => by cases hx
  | y :: V, k, x, hx, he => by
    rw [idxF]
    split
    · omega
    · rename_i hne
      rcases List.mem_cons.1 hx with rfl | hx
      · exact absurd he hne
      · exact idxF_mem x hx he
theorem idxF_no {id : Int} : ∀ {V : List Ve} {k : Nat}, (∀ x ∈ V, x.id ≠ id) → idxF id V k = -1
  | [], _, _ => rfl
  | y :: V, k, h => by
    rw [idxF, if_neg (h y (by simp))]
    exact idxF_no (fun x hx => h x (by simp [hx]))
theorem sorted_len : ∀ {V : List Ve} {m M : Int}, validF m V = true → m ≤ M → (∀ x ∈ V, x.id < M) → (V.length : Int) ≤ M - m
  | [], m, M, _, hm, _ => by simp; omega
  | x :: V, m, M, h, hm, hx => by
    rw [validF_cons] at h
    have h1 := hx x (by simp)
    have := sorted_len h.2 (show x.id + 1 ≤ M by omega) (fun y hy => hx y (by simp [hy]))
    simp only [List.length_cons]
    omega
/-- Vehicles with numbers below 8, their classes given by their numbers; S tells which. -/
structure Cano (S : Int → Prop) (V : List Ve) : Prop where
  valid : validF 0 V = true
  cl : ∀ x ∈ V, x.id < 8 ∧ x.cl = x.id % 4
  mem : ∀ k, S k ↔ ∃ x ∈ V, x.id = k
theorem Cano.nil : Cano (fun _ => False) [] := ⟨rfl, (fun x hx => by cases hx), (fun k => by simp)⟩
theorem Cano.len {S : Int → Prop} {V : List Ve} (h : Cano S V) : V.length ≤ 8 := by
  have := sorted_len h.valid (show (0 : Int) ≤ 8 by omega) (fun x hx => (h.cl x hx).1)
  omega
theorem Cano.b {S : Int → Prop} {V : List Ve} (h : Cano S V) : validB V = true := by
  unfold validB; rw [h.valid]; simpa using h.len
theorem Cano.ext {S : Int → Prop} {V V' : List Ve} (h : Cano S V) (h' : Cano S V') : V = V' := by
  refine sorted_ext h.valid h'.valid (fun x => ?_)
  have key : ∀ {U U' : List Ve}, Cano S U → Cano S U' → x ∈ U → x ∈ U' := fun {U U'} hU hU' hx => by
    obtain ⟨y, hy, e⟩ := (hU'.mem x.id).1 ((hU.mem x.id).2 ⟨x, hx, rfl⟩)
    have c1 := (hU.cl x hx).2
    have c2 := (hU'.cl y hy).2
    have : x = y := by cases x; cases y; simp only at e c1 c2; subst e; rw [c1, c2]
    rw [this]; exact hy
  exact ⟨key h h', key h' h⟩
/-- A number below 8 is registered, or is there already. -/
theorem Cano.reg {S : Int → Prop} {V : List Ve} (h : Cano S V) {k : Int} (hk : 0 ≤ k ∧ k < 8) :
    (regE V 3 [8, 8, 8, 8] ⟨k, k % 4⟩ = 0 ∧ Cano (fun j => S j ∨ j = k) (insV ⟨k, k % 4⟩ V)) ∨ (regE V 3 [8, 8, 8, 8] ⟨k, k % 4⟩ = 11 ∧ Cano (fun j => S j ∨ j = k) V) := by
  by_cases hS : S k
  · right
    obtain ⟨x, hx, e⟩ := (h.mem k).1 hS
    refine ⟨?_, h.valid, h.cl, fun j => ?_⟩
    · unfold regE
      rw [h.b, if_neg (by decide), if_neg (by show ¬ (k < 0 ∨ k > 4294967295); omega), if_neg (by show ¬ (k % 4 < 0 ∨ k % 4 > 3); omega), if_pos (idxF_mem x hx e)]
    · rw [← h.mem j]
      constructor
      · rintro (h1 | rfl)
        · exact h1
        · exact hS
      · exact .inl
  · left
    have hno : ∀ x ∈ V, x.id ≠ k := fun x hx e => hS ((h.mem k).2 ⟨x, hx, e⟩)
    have hv : validF 0 (insF ⟨k, k % 4⟩ V) = true := insF_valid ⟨by show k ≤ _; omega, by show 0 ≤ k % 4; omega, by show k % 4 ≤ 3; omega⟩ h.valid hk.1 hno
    have hcl : ∀ x ∈ insF ⟨k, k % 4⟩ V, x.id < 8 ∧ x.cl = x.id % 4 := fun x hx => by
      rcases insF_mem.1 hx with rfl | hx
      · exact ⟨hk.2, rfl⟩
      · exact h.cl x hx
    have hl := sorted_len hv (show (0 : Int) ≤ 8 by omega) (fun x hx => (hcl x hx).1)
    rw [insF_len] at hl
    refine ⟨?_, ?_⟩
    · have hc := cntF_bd (k % 4) V
      have hL : at_ [8, 8, 8, 8] (k % 4).toNat = 8 := by
        have : (k % 4).toNat = 0 ∨ (k % 4).toNat = 1 ∨ (k % 4).toNat = 2 ∨ (k % 4).toNat = 3 := by omega
        rcases this with e | e | e | e <;> rw [e] <;> rfl
      unfold regE
      rw [h.b, if_neg (by decide), if_neg (by show ¬ (k < 0 ∨ k > 4294967295); omega), if_neg (by show ¬ (k % 4 < 0 ∨ k % 4 > 3); omega), if_neg (by rw [idxF_no hno]; omega), if_neg (by show ¬ at_ [8, 8, 8, 8] (k % 4).toNat ≤ cntF (k % 4) V; rw [hL]; omega), if_neg (by omega)]
    · rw [insV_eq]
      refine ⟨hv, hcl, fun j => ?_⟩
      constructor
      · rintro (h1 | rfl)
        · obtain ⟨x, hx, e⟩ := (h.mem j).1 h1
          exact ⟨x, insF_mem.2 (.inr hx), e⟩
        · exact ⟨_, insF_mem.2 (.inl rfl), rfl⟩
      · rintro ⟨x, hx, e⟩
        rcases insF_mem.1 hx with rfl | hx
        · exact .inr e.symm
        · exact .inl ((h.mem j).2 ⟨x, hx, e⟩)
theorem Cano.set {S T : Int → Prop} {V : List Ve} (h : Cano S V) (hT : ∀ k, S k ↔ T k) : Cano T V := ⟨h.valid, h.cl, fun k => (hT k).symm.trans (h.mem k)⟩
theorem cnt1_le : ∀ {V : List Ve} {m : Int}, 0 ≤ m → validF m V = true → (∀ x ∈ V, x.id < 8 ∧ x.cl = x.id % 4) → cntF 1 V ≤ if m ≤ 1 then 2 else if m ≤ 5 then 1 else 0
  | [], m, hm, _, _ => by simp only [cntF]; split <;> (try split) <;> omega
  | x :: V, m, hm, h, hc => by
    rw [validF_cons] at h
    have h1 := hc x (by simp)
    have ih := cnt1_le (show 0 ≤ x.id + 1 by omega) h.2 (fun y hy => hc y (by simp [hy]))
    simp only [cntF]
    rw [h1.2]
    split at ih <;> (try split at ih) <;> split <;> (try split) <;> (try split) <;> omega
theorem insF_end {v : Ve} : ∀ {V : List Ve}, (∀ x ∈ V, x.id < v.id) → insF v V = V ++ [v]
  | [], _ => rfl
  | x :: V, h => by
    unfold insF
    rw [if_pos (h x (by simp)), insF_end (fun y hy => h y (by simp [hy]))]
    rfl
theorem idxF_end {v : Ve} : ∀ {V : List Ve} {k : Nat}, (∀ x ∈ V, x.id ≠ v.id) → idxF v.id (V ++ [v]) k = (k + V.length : Nat)
  | [], k, _ => by simp [idxF]
  | x :: V, k, h => by
    show idxF v.id (x :: (V ++ [v])) k = _
    rw [idxF, if_neg (h x (by simp)), idxF_end (fun y hy => h y (by simp [hy]))]
    simp only [List.length_cons]
    omega
/-- One more vehicle, with a greater number. -/
theorem Cano.last {S : Int → Prop} {V : List Ve} (h : Cano S V) {a : Int} (ha : 8 ≤ a ∧ a ≤ 1000) :
    (regE V 3 [8, 8, 8, 8] ⟨a, 1⟩ = 10 ∧ V.length = 8) ∨ (regE V 3 [8, 8, 8, 8] ⟨a, 1⟩ = 0 ∧ V.length < 8 ∧ insV ⟨a, 1⟩ V = V ++ [⟨a, 1⟩] ∧ validB (V ++ [⟨a, 1⟩]) = true ∧ idxF a (V ++ [⟨a, 1⟩]) 0 = V.length) := by
  have hno : ∀ x ∈ V, x.id ≠ a := fun x hx e => by have := (h.cl x hx).1; omega
  have hc := cnt1_le (Int.le_refl 0) h.valid h.cl
  simp only [show (0 : Int) ≤ 1 by omega, if_true] at hc
  have hl := h.len
  have hE : regE V 3 [8, 8, 8, 8] ⟨a, 1⟩ = if 8 ≤ V.length then 10 else 0 := by
    unfold regE
    rw [h.b, if_neg (by decide), if_neg (by show ¬ (a < 0 ∨ a > 4294967295); omega), if_neg (by show ¬ ((1 : Int) < 0 ∨ (1 : Int) > 3); omega), if_neg (by rw [idxF_no hno]; omega), if_neg (by show ¬ at_ [8, 8, 8, 8] (1 : Int).toNat ≤ cntF 1 V; have : at_ [8, 8, 8, 8] (1 : Int).toNat = 8 := rfl; omega)]
  have hi : insV ⟨a, 1⟩ V = V ++ [⟨a, 1⟩] := by rw [insV_eq]; exact insF_end (fun x hx => by have := (h.cl x hx).1; show x.id < a; omega)
  by_cases h8 : 8 ≤ V.length
  · left; exact ⟨by rw [hE, if_pos h8], by omega⟩
  · right
    refine ⟨by rw [hE, if_neg h8], by omega, hi, ?_, ?_⟩
    · have hv : validF 0 (insF ⟨a, 1⟩ V) = true := insF_valid ⟨by show a ≤ _; omega, by show (0 : Int) ≤ 1; omega, by show (1 : Int) ≤ 3; omega⟩ h.valid (by show 0 ≤ a; omega) hno
      rw [← insV_eq, hi] at hv
      unfold validB
      rw [hv]
      simp; omega
    · have := idxF_end (v := ⟨a, 1⟩) (V := V) (k := 0) hno
      rw [Nat.zero_add] at this
      exact this
end Go.Proofs.Ytgafianhlobcfaa
