/-
  The best claim, and how levels rise. Conditions: none.
-/
import Derived.Test.YtikffoepndpfjaaMath
namespace Go.Proofs.Ytikffoepndpfjaa

section
variable {per cap lock : Int} {l : List Int} {now : Int} {C : List Cl}
theorem best_all : ∀ k : Nat, (bestK per cap lock l now C k = -1 → ∀ i, i < k → lockC lock l now (clAt C i) = true) ∧
    (∀ j : Nat, bestK per cap lock l now C k = j → lockC lock l now (clAt C j) = false ∧ ∀ i, i < k → lockC lock l now (clAt C i) = false → lessC per cap l now (clAt C i) (clAt C j) = false)
  | 0 => ⟨fun _ i hi => by omega, fun j h => by exfalso; unfold bestK at h; omega⟩
  | k + 1 => by
    have ih := best_all k
    have hbd := bestK_bd per cap lock l now C k
    have hs : ∀ i, i < k + 1 → i < k ∨ i = k := fun i hi => by omega
    rw [bestK]
    by_cases hl : lockC lock l now (clAt C k) = true
    · rw [if_pos hl]
      refine ⟨fun h i hi => ?_, fun j h => ⟨(ih.2 j h).1, fun i hi hu => ?_⟩⟩
      · rcases hs i hi with h' | rfl
        · exact ih.1 h i h'
        · exact hl
      · rcases hs i hi with h' | rfl
        · exact (ih.2 j h).2 i h' hu
        · rw [hu] at hl; cases hl
    · rw [if_neg hl]
      by_cases hb : bestK per cap lock l now C k < 0
      · rw [if_pos hb]
        refine ⟨fun h => by omega, fun j h => ?_⟩
        have hj : j = k := by omega
        subst hj
        refine ⟨by simpa using hl, fun i hi hu => ?_⟩
        rcases hs i hi with h' | rfl
        · rw [ih.1 (by omega) i h'] at hu; cases hu
        · exact less_irr _ _ _ _ _
      · rw [if_neg hb]
        obtain ⟨q, hq⟩ : ∃ q : Nat, bestK per cap lock l now C k = q := ⟨(bestK per cap lock l now C k).toNat, by omega⟩
        rw [hq, Int.toNat_natCast]
        have ihq := ih.2 q hq
        by_cases hls : lessC per cap l now (clAt C k) (clAt C q) = true
        · rw [if_pos hls]
          refine ⟨fun h => by omega, fun j h => ?_⟩
          have hj : j = k := by omega
          subst hj
          refine ⟨by simpa using hl, fun i hi hu => ?_⟩
          rcases hs i hi with h' | rfl
          · cases hx : lessC per cap l now (clAt C i) (clAt C j) with
            | false => rfl
            | true => have := ihq.2 i h' hu; rw [less_trans hx hls] at this; cases this
          · exact less_irr _ _ _ _ _
        · rw [if_neg hls]
          refine ⟨fun h => by omega, fun j h => ?_⟩
          have hj : j = q := by omega
          subst hj
          refine ⟨ihq.1, fun i hi hu => ?_⟩
          rcases hs i hi with h' | rfl
          · exact ihq.2 i h' hu
          · simpa using hls
end
theorem level_mono {per : Int} (cap : Int) (l : List Int) (ph cl si : Int) {now later : Int} (hp : 1 ≤ per) (h : now ≤ later) : levelV per cap l ph cl si now ≤ levelV per cap l ph cl si later := by
  unfold levelV
  have := Int.ediv_le_ediv (show 0 < per by omega) (show now - startV l ph si ≤ later - startV l ph si by omega)
  omega
theorem level_cap (per cap : Int) (l : List Int) (ph cl si now : Int) : levelV per cap l ph cl si now ≤ cap := by unfold levelV; omega
theorem level_full {per cap : Int} {l : List Int} {ph cl si later : Int} (hp : 1 ≤ per) (hc : 0 ≤ cl) (h : cap * per ≤ later - startV l ph si) : levelV per cap l ph cl si later = cap := by
  have := (Int.le_ediv_iff_mul_le (show 0 < per by omega)).2 h
  unfold levelV; omega
theorem less_start {per cap : Int} {l : List Int} {later : Int} {x y : Cl} (hx : emB x.cl = false) (hy : emB y.cl = false) (hf : levelV per cap l x.ph x.cl x.si later = cap) (hl : lessC per cap l later y x = true) : startV l y.ph y.si ≤ startV l x.ph x.si := by
  have hy1 := level_cap per cap l y.ph y.cl y.si later
  unfold lessC keyC keyL at hl
  rw [hx, hy, hf] at hl
  simp only [lexB, if_true, Bool.false_eq_true, if_false] at hl
  by_cases h1 : -levelV per cap l y.ph y.cl y.si later = -cap
  · rw [if_pos h1] at hl
    by_cases h2 : startV l y.ph y.si = startV l x.ph x.si
    · omega
    · rw [if_neg h2] at hl; simp at hl; omega
  · rw [if_neg h1] at hl; simp at hl; omega
end Go.Proofs.Ytikffoepndpfjaa
