/-
  Plain facts: how many units are taken between two ticks.
-/
import Derived.Test.YtooclkopemjhhaaK
namespace Go.Proofs.Ytooclkopemjhhaa

/-- The sum of the numbers from place i to place k, k not among them. -/
def seg (T : List Int) (i k : Nat) : Int := ((T.drop i).take (k - i)).sum
theorem seg_none (T : List Int) (i : Nat) : seg T i i = 0 := by simp [seg]
theorem seg_next (T : List Int) (i k : Nat) (h : i ≤ k) (hk : k < T.length) : seg T i (k + 1) = seg T i k + at_ T k := by
  unfold seg
  have e : k + 1 - i = (k - i) + 1 := by omega
  have hl : k - i < (T.drop i).length := by rw [List.length_drop]; omega
  rw [e, List.take_succ_eq_append_getElem hl, List.sum_append]
  simp [at_, show i + (k - i) = k by omega, hk]
theorem at_app (T : List Int) (n : Int) (k : Nat) : at_ (T ++ [n]) k = if k < T.length then at_ T k else if k = T.length then n else 0 := by
  unfold at_
  rw [List.getD_eq_getElem?_getD, List.getD_eq_getElem?_getD]
  by_cases h : k < T.length
  · rw [if_pos h, List.getElem?_append_left h]
  · rw [if_neg h, List.getElem?_append_right (by omega)]
    by_cases h2 : k = T.length
    · rw [if_pos h2, h2]; simp
    · rw [if_neg h2, List.getElem?_eq_none (by simp; omega)]; rfl
theorem seg_app (T : List Int) (n : Int) (i k : Nat) (hk : k ≤ T.length) : seg (T ++ [n]) i k = seg T i k := by
  rcases Nat.lt_or_ge k i with h | h
  · unfold seg; rw [show k - i = 0 by omega]; simp; try omega
  · obtain ⟨m, rfl⟩ : ∃ m, k = i + m := ⟨k - i, by omega⟩
    clear h
    induction m with
    | zero => simp [seg]
    | succ m ih =>
      rw [← Nat.add_assoc, seg_next _ _ _ (by omega) (by simp; omega), seg_next _ _ _ (by omega) (by omega), ih (by omega), at_app, if_pos (by omega)]
/-- What holds behind some acts: n units taken since the last tick, L left. -/
structure Taken (T : List Int) (n L R B : Int) : Prop where
  n0 : 0 ≤ n
  l0 : 0 ≤ L
  l1 : L ≤ B
  each : ∀ t ∈ T, 0 ≤ t ∧ t ≤ 200
  last : ∀ i : Nat, i ≤ T.length → seg T i T.length + n + L ≤ B + ((T.length : Int) - i) * R
  all : ∀ i k : Nat, i ≤ k → k < T.length → seg T i (k + 1) ≤ B + ((k : Int) - i) * R
theorem Taken.begin {R B : Int} (hB : 0 ≤ B) : Taken [] 0 B R B := by
  refine ⟨by omega, hB, by omega, by simp, fun i hi => ?_, fun i k _ hk => by simp at hk⟩
  have : i = 0 := by simpa using hi
  subst this
  simp [seg]
theorem Taken.take {T : List Int} {n L R B : Int} (h : Taken T n L R B) (hL : 0 < L) : Taken T (n + 1) (L - 1) R B :=
  ⟨by have := h.n0; omega, by omega, by have := h.l1; omega, h.each, fun i hi => by have := h.last i hi; omega, h.all⟩
theorem Taken.push {T : List Int} {n L R B : Int} (h : Taken T n L R B) (i k : Nat) (hik : i ≤ k) (hk : k < (T ++ [n]).length) : seg (T ++ [n]) i (k + 1) ≤ B + ((k : Int) - i) * R := by
  rw [List.length_append, List.length_singleton] at hk
  rcases Nat.lt_or_ge k T.length with hl | hl
  · rw [seg_app _ _ _ _ (by omega)]; exact h.all i k hik hl
  · have e : k = T.length := by omega
    subst e
    rw [seg_next _ _ _ hik (by simp), seg_app _ _ _ _ (Nat.le_refl _), at_app, if_neg (by omega), if_pos rfl]
    have := h.last i hik
    have := h.l0
    omega
theorem Taken.tick {T : List Int} {n L R B L' : Int} (h : Taken T n L R B) (hR : 0 ≤ R) (hn : n ≤ 200) (h0 : 0 ≤ L') (h1 : L' ≤ B) (h2 : L' ≤ L + R) : Taken (T ++ [n]) 0 L' R B := by
  refine ⟨by omega, h0, h1, fun t ht => ?_, fun i hi => ?_, fun i k => h.push i k⟩
  · rcases List.mem_append.1 ht with h' | h'
    · exact h.each t h'
    · rw [List.mem_singleton] at h'; subst h'; exact ⟨h.n0, hn⟩
  · rw [List.length_append, List.length_singleton] at hi ⊢
    rcases Nat.lt_or_ge i (T.length + 1) with hl | hl
    · rw [seg_next _ _ _ (by omega) (by simp), seg_app _ _ _ _ (Nat.le_refl _), at_app, if_neg (by omega), if_pos rfl]
      have h3 := h.last i (by omega)
      have e : (((T.length + 1 : Nat) : Int) - i) * R = ((T.length : Int) - i) * R + R := by
        rw [show (((T.length + 1 : Nat) : Int) - i) = ((T.length : Int) - i) + 1 by omega, Int.add_mul, Int.one_mul]
      rw [e]; omega
    · have e : i = T.length + 1 := by omega
      subst e
      rw [seg_none, Int.sub_self, Int.zero_mul]
      omega
theorem seg_bd {T : List Int} (h : ∀ t ∈ T, 0 ≤ t ∧ t ≤ 200) (i k : Nat) (hk : k ≤ T.length) : 0 ≤ seg T i k ∧ seg T i k ≤ 200 * k := by
  rcases Nat.lt_or_ge k i with hl | hl
  · unfold seg; rw [show k - i = 0 by omega]; simp; try omega
  · obtain ⟨m, rfl⟩ : ∃ m, k = i + m := ⟨k - i, by omega⟩
    clear hl
    induction m with
    | zero => simp [seg]; omega
    | succ m ih =>
      have := ih (by omega)
      have hm := h _ (at_mem (l := T) (i := i + m) (by omega))
      rw [← Nat.add_assoc, seg_next _ _ _ (by omega) (by omega)]
      omega
theorem mul_bd {a R : Int} (h0 : 0 ≤ a) (h1 : a ≤ 201) (r0 : 0 ≤ R) (r1 : R ≤ 8) : 0 ≤ a * R ∧ a * R ≤ 1608 := by
  have m0 := Int.mul_nonneg h0 r0
  have m1 : a * R ≤ 201 * R := Int.mul_le_mul_of_nonneg_right h1 r0
  omega
end Go.Proofs.Ytooclkopemjhhaa
