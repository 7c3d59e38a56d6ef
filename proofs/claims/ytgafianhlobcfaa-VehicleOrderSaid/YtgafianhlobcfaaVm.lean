/-
  Lists of vehicles: what registering and removing leave true.
-/
import Derived.Test.YtgafianhlobcfaaRm
namespace Go.Proofs.Ytgafianhlobcfaa
open Go.ChangeShapes Go.WideShapes Go.RowKit
set_option linter.unusedVariables false

def SafeF (m : Int) (V : List Ve) : Prop := validF m V = true
theorem okB_iff {m : Int} {x : Ve} : okB m x = true ↔ m ≤ x.id ∧ x.id ≤ 4294967295 ∧ 0 ≤ x.cl ∧ x.cl ≤ 3 := by
  unfold okB
  simp only [Bool.not_eq_true', Bool.or_eq_false_iff, decide_eq_false_iff_not]
  omega
theorem validF_cons {m : Int} {x : Ve} {V : List Ve} : validF m (x :: V) = true ↔ (m ≤ x.id ∧ x.id ≤ 4294967295 ∧ 0 ≤ x.cl ∧ x.cl ≤ 3) ∧ validF (x.id + 1) V = true := by
  rw [validF, Bool.and_eq_true, okB_iff]
theorem validF_mono : ∀ {V : List Ve} {m m' : Int}, validF m V = true → m' ≤ m → validF m' V = true
  | [], _, _, _, _ => rfl
  | x :: V, m, m', h, hm => by
    rw [validF_cons] at h ⊢
    exact ⟨⟨by omega, h.1.2⟩, h.2⟩
/-- The list with a vehicle in its place. -/
def insF (v : Ve) : List Ve → List Ve
  | [] => [v]
  | x :: V => if x.id < v.id then x :: insF v V else v :: x :: V
theorem insV_eq (v : Ve) : ∀ V : List Ve, insV v V = insF v V
  | [] => rfl
  | x :: V => by
    have ih := insV_eq v V
    unfold insV at ih ⊢
    unfold insF atF
    split
    · rw [← ih]; simp
    · simp
theorem idxF_none {id : Int} : ∀ {V : List Ve} {k : Nat}, ¬ 0 ≤ idxF id V k → ∀ x ∈ V, x.id ≠ id
  | [], _, _, x, hx => by cases hx
  | y :: V, k, h, x, hx => by
    rw [idxF] at h
    split at h
    · omega
    · rcases List.mem_cons.1 hx with rfl | hx
      · assumption
      · exact idxF_none h x hx
theorem insF_valid {v : Ve} (hv : v.id ≤ 4294967295 ∧ 0 ≤ v.cl ∧ v.cl ≤ 3) : ∀ {V : List Ve} {m : Int}, validF m V = true → m ≤ v.id → (∀ x ∈ V, x.id ≠ v.id) → validF m (insF v V) = true
  | [], m, _, hm, _ => by
    unfold insF
    rw [validF_cons]
    exact ⟨⟨hm, hv⟩, rfl⟩
  | x :: V, m, h, hm, hne => by
    rw [validF_cons] at h
    have hx := hne x (by simp)
    unfold insF
    split
    · rw [validF_cons]
      exact ⟨h.1, insF_valid hv h.2 (by omega) (fun y hy => hne y (by simp [hy]))⟩
    · rw [validF_cons, validF_cons]
      exact ⟨⟨hm, hv⟩, ⟨by omega, h.1.2⟩, h.2⟩
theorem insF_len (v : Ve) : ∀ V : List Ve, (insF v V).length = V.length + 1
  | [] => rfl
  | x :: V => by
    unfold insF
    split
    · simp [insF_len v V]
    · simp
theorem insF_cnt (v : Ve) (c : Int) : ∀ V : List Ve, cntF c (insF v V) = cntF c V + (if v.cl = c then 1 else 0)
  | [] => by simp [insF, cntF]
  | x :: V => by
    have ih := insF_cnt v c V
    unfold insF
    split
    · simp only [cntF]; rw [ih]; omega
    · simp only [cntF]; omega
theorem insF_mem {v x : Ve} : ∀ {V : List Ve}, x ∈ insF v V ↔ x = v ∨ x ∈ V
  | [] => by simp [insF]
  | y :: V => by
    unfold insF
    split
    · rw [List.mem_cons, insF_mem (V := V), List.mem_cons]
      constructor
      · rintro (h | h | h)
        · exact .inr (.inl h)
        · exact .inl h
        · exact .inr (.inr h)
      · rintro (h | h | h)
        · exact .inr (.inl h)
        · exact .inl h
        · exact .inr (.inr h)
    · simp
/-- The list without its item k. -/
def delN (V : List Ve) (k : Nat) : List Ve := V.take k ++ V.drop (k + 1)
theorem delN_cons (x : Ve) (V : List Ve) (k : Nat) : delN (x :: V) (k + 1) = x :: delN V k := rfl
theorem delN_valid : ∀ {V : List Ve} {m : Int} (k : Nat), validF m V = true → validF m (delN V k) = true
  | [], m, k, _ => by simp [delN, validF]
  | x :: V, m, 0, h => by
    rw [validF_cons] at h
    exact validF_mono h.2 (by omega)
  | x :: V, m, k + 1, h => by
    rw [validF_cons] at h
    rw [delN_cons, validF_cons]
    exact ⟨h.1, delN_valid k h.2⟩
theorem delN_cnt (c : Int) : ∀ (V : List Ve) (k : Nat), cntF c (delN V k) ≤ cntF c V ∧ 0 ≤ cntF c (delN V k)
  | [], k => by simp [delN, cntF]
  | x :: V, 0 => by
    have := cntF_bd c V
    simp only [delN, List.take_zero, List.nil_append, List.drop_succ_cons, List.drop_zero, cntF]
    split <;> omega
  | x :: V, k + 1 => by
    have := delN_cnt c V k
    rw [delN_cons]
    simp only [cntF]
    split <;> omega
theorem delN_len {V : List Ve} {k : Nat} (h : k < V.length) : (delN V k).length = V.length - 1 := by simp [delN]; omega
theorem veW_valid : ∀ {V : List Ve} {m : Int}, 0 ≤ m → validF m V = true → VeW V
  | [], _, _, _, x, hx => by cases hx
  | y :: V, m, hm, h, x, hx => by
    rw [validF_cons] at h
    rcases List.mem_cons.1 hx with rfl | hx
    · exact ⟨by omega, by omega⟩
    · exact veW_valid (by omega) h.2 x hx
/-- What the limits law keeps. -/
structure LimOk (cls : Int) (L : List Int) (V : List Ve) : Prop where
  valid : validF 0 V = true
  len : V.length ≤ 8
  lim : ∀ c : Nat, c < 4 → cntF c V ≤ at_ L c ∧ (cls < c → cntF c V = 0)
theorem LimOk.b {cls : Int} {L : List Int} {V : List Ve} (h : LimOk cls L V) : validB V = true := by
  unfold validB; rw [h.valid]; simpa using h.len
theorem LimOk.nil {cls : Int} {L : List Int} (hL : ∀ x ∈ L, 0 ≤ x) (hl : L.length = 4) : LimOk cls L [] :=
  ⟨rfl, by simp, fun c hc => ⟨hL _ (at_mem (by omega)), fun _ => rfl⟩⟩
theorem LimOk.ins {cls : Int} {L : List Int} {V : List Ve} {v : Ve} (h : LimOk cls L V) (hc : cls ≤ 3) (he : regE V cls L v = 0) : LimOk cls L (insV v V) := by
  unfold regE at he
  rw [h.b, if_neg (by decide)] at he
  split at he
  · omega
  · rename_i q1
    split at he
    · omega
    · rename_i q2
      split at he
      · omega
      · rename_i q3
        split at he
        · omega
        · rename_i q4
          split at he
          · omega
          · rename_i q5
            rw [insV_eq]
            refine ⟨insF_valid ⟨by omega, by omega, by omega⟩ h.valid (by omega) (idxF_none q3), by rw [insF_len]; omega, fun c hc' => ?_⟩
            rw [insF_cnt]
            have hl := h.lim c hc'
            split
            · rename_i e
              rw [e, show ((c : Int)).toNat = c by omega] at q4
              exact ⟨by omega, fun hx => by omega⟩
            · exact ⟨by omega, fun hx => by have := hl.2 hx; omega⟩
theorem LimOk.del {cls : Int} {L : List Int} {V : List Ve} (h : LimOk cls L V) (k : Nat) : LimOk cls L (delN V k) :=
  ⟨delN_valid k h.valid, by have := h.len; simp [delN]; omega, fun c hc => by
    have h1 := h.lim c hc
    have h2 := delN_cnt c V k
    exact ⟨by omega, fun hx => by have := h1.2 hx; omega⟩⟩
end Go.Proofs.Ytgafianhlobcfaa
