/-
  Plain facts on codes of numbers: a code is read back, whatever follows; what is read has that code; no code begins another one.
-/
import Derived.Test.YtepkpogpekflmaaDc
import Derived.Test.YtepkpogpekflmaaE
namespace Go.Proofs.Ytepkpogpekflmaa
set_option linter.unusedVariables false

theorem enc_size {n : Int} (h0 : 0 ≤ n) (h1 : n ≤ 4294967295) : ((enc n).length : Int) = sizeI n := by
  rcases size_cases h0 h1 with ⟨c2, h⟩ | ⟨c1, c2, h⟩ | ⟨c1, c2, h⟩ | ⟨c1, c2, h⟩ | ⟨c1, h⟩ <;> rw [h] <;> unfold enc
  · rw [if_pos (by omega)]; rfl
  · rw [if_neg (by omega), if_pos (by omega)]; rfl
  · rw [if_neg (by omega), if_neg (by omega), if_pos (by omega)]; rfl
  · rw [if_neg (by omega), if_neg (by omega), if_neg (by omega), if_pos (by omega)]; rfl
  · rw [if_neg (by omega), if_neg (by omega), if_neg (by omega), if_neg (by omega)]; rfl
theorem at_0 (x : Int) (l : List Int) : at_ (x :: l) 0 = x := rfl
theorem at_s (x : Int) (l : List Int) (k : Nat) : at_ (x :: l) (k + 1) = at_ l k := rfl
theorem decF_more {l : List Int} {f k : Nat} {n m : Int} (hk : k < l.length) (h : 128 ≤ at_ l k) (hm : n + at_ l k % 128 * 128 ^ k = m) : decF l (f + 1) k n = decF l f (k + 1) m := by
  rw [decF, if_pos hk, if_pos h, hm]
theorem decF_last {l : List Int} {f k : Nat} {n m : Int} (hk : k < l.length) (h : ¬ 128 ≤ at_ l k) (hm : n + at_ l k % 128 * 128 ^ k = m) (hs : sizeI m = k + 1) : decF l (f + 1) k n = (m, (k : Int) + 1, 0) := by
  rw [decF, if_pos hk, if_neg h, hm, if_pos hs]
theorem dec_enc {n : Int} (h0 : 0 ≤ n) (h1 : n ≤ 4294967295) (more : List Int) : dec (enc n ++ more) = (n, ((enc n).length : Int), 0) := by
  rcases size_cases h0 h1 with ⟨c2, h⟩ | ⟨c1, c2, h⟩ | ⟨c1, c2, h⟩ | ⟨c1, c2, h⟩ | ⟨c1, h⟩
  · have e : enc n = [n % 128] := by unfold enc; rw [if_pos (by omega)]
    rw [e]
    exact (decF_last (m := n) (by simp) (by show ¬ 128 ≤ n % 128; omega) (by show (0 : Int) + (n % 128) % 128 * 128 ^ 0 = n; omega) h)
  · have e : enc n = [n % 128 + 128, n / 128 % 128] := by unfold enc; rw [if_neg (by omega), if_pos (by omega)]
    rw [e]
    exact ((decF_more (m := n % 128) (by simp) (by show 128 ≤ n % 128 + 128; omega) (by show (0 : Int) + (n % 128 + 128) % 128 * 128 ^ 0 = n % 128; omega))).trans ((decF_last (m := n) (by simp) (by show ¬ 128 ≤ n / 128 % 128; omega) (by show (n % 128 : Int) + (n / 128 % 128) % 128 * 128 ^ 1 = n; omega) h))
  · have e : enc n = [n % 128 + 128, n / 128 % 128 + 128, n / 128 / 128 % 128] := by unfold enc; rw [if_neg (by omega), if_neg (by omega), if_pos (by omega)]
    rw [e]
    exact ((decF_more (m := n % 128) (by simp) (by show 128 ≤ n % 128 + 128; omega) (by show (0 : Int) + (n % 128 + 128) % 128 * 128 ^ 0 = n % 128; omega))).trans (((decF_more (m := n % 16384) (by simp) (by show 128 ≤ n / 128 % 128 + 128; omega) (by show (n % 128 : Int) + (n / 128 % 128 + 128) % 128 * 128 ^ 1 = n % 16384; omega))).trans ((decF_last (m := n) (by simp) (by show ¬ 128 ≤ n / 128 / 128 % 128; omega) (by show (n % 16384 : Int) + (n / 128 / 128 % 128) % 128 * 128 ^ 2 = n; omega) h)))
  · have e : enc n = [n % 128 + 128, n / 128 % 128 + 128, n / 128 / 128 % 128 + 128, n / 128 / 128 / 128 % 128] := by unfold enc; rw [if_neg (by omega), if_neg (by omega), if_neg (by omega), if_pos (by omega)]
    rw [e]
    exact ((decF_more (m := n % 128) (by simp) (by show 128 ≤ n % 128 + 128; omega) (by show (0 : Int) + (n % 128 + 128) % 128 * 128 ^ 0 = n % 128; omega))).trans (((decF_more (m := n % 16384) (by simp) (by show 128 ≤ n / 128 % 128 + 128; omega) (by show (n % 128 : Int) + (n / 128 % 128 + 128) % 128 * 128 ^ 1 = n % 16384; omega))).trans (((decF_more (m := n % 2097152) (by simp) (by show 128 ≤ n / 128 / 128 % 128 + 128; omega) (by show (n % 16384 : Int) + (n / 128 / 128 % 128 + 128) % 128 * 128 ^ 2 = n % 2097152; omega))).trans ((decF_last (m := n) (by simp) (by show ¬ 128 ≤ n / 128 / 128 / 128 % 128; omega) (by show (n % 2097152 : Int) + (n / 128 / 128 / 128 % 128) % 128 * 128 ^ 3 = n; omega) h))))
  · have e : enc n = [n % 128 + 128, n / 128 % 128 + 128, n / 128 / 128 % 128 + 128, n / 128 / 128 / 128 % 128 + 128, n / 128 / 128 / 128 / 128 % 128] := by unfold enc; rw [if_neg (by omega), if_neg (by omega), if_neg (by omega), if_neg (by omega)]
    rw [e]
    exact ((decF_more (m := n % 128) (by simp) (by show 128 ≤ n % 128 + 128; omega) (by show (0 : Int) + (n % 128 + 128) % 128 * 128 ^ 0 = n % 128; omega))).trans (((decF_more (m := n % 16384) (by simp) (by show 128 ≤ n / 128 % 128 + 128; omega) (by show (n % 128 : Int) + (n / 128 % 128 + 128) % 128 * 128 ^ 1 = n % 16384; omega))).trans (((decF_more (m := n % 2097152) (by simp) (by show 128 ≤ n / 128 / 128 % 128 + 128; omega) (by show (n % 16384 : Int) + (n / 128 / 128 % 128 + 128) % 128 * 128 ^ 2 = n % 2097152; omega))).trans (((decF_more (m := n % 268435456) (by simp) (by show 128 ≤ n / 128 / 128 / 128 % 128 + 128; omega) (by show (n % 2097152 : Int) + (n / 128 / 128 / 128 % 128 + 128) % 128 * 128 ^ 3 = n % 268435456; omega))).trans ((decF_last (m := n) (by simp) (by show ¬ 128 ≤ n / 128 / 128 / 128 / 128 % 128; omega) (by show (n % 268435456 : Int) + (n / 128 / 128 / 128 / 128 % 128) % 128 * 128 ^ 4 = n; omega) h)))))
theorem prefix_free {n m : Int} (h0 : 0 ≤ n) (h1 : n ≤ 4294967295) (g0 : 0 ≤ m) (g1 : m ≤ 4294967295) (hne : n ≠ m) (k : Nat) (hk : k = min (enc n).length (enc m).length) : (enc n).take k ≠ (enc m).take k := by
  intro h
  have key : ∀ {x y : Int}, 0 ≤ x → x ≤ 4294967295 → 0 ≤ y → y ≤ 4294967295 → enc x = (enc y).take (enc x).length → x = y := by
    intro x y x0 x1 y0 y1 hx
    have e := dec_enc y0 y1 []
    have e2 := dec_enc x0 x1 ((enc y).drop (enc x).length)
    have e3 : enc x ++ (enc y).drop (enc x).length = enc y := by
      generalize (enc x).length = p at hx ⊢
      rw [hx, List.take_append_drop]
    rw [e3] at e2
    rw [List.append_nil, e2] at e
    exact (congrArg Prod.fst e)
  rcases Nat.le_total (enc n).length (enc m).length with hl | hl
  · rw [Nat.min_eq_left hl] at hk
    subst hk
    rw [List.take_length] at h
    exact hne (key h0 h1 g0 g1 h)
  · rw [Nat.min_eq_right hl] at hk
    subst hk
    rw [List.take_length] at h
    exact hne (key g0 g1 h0 h1 h.symm).symm
theorem size_mono {n m : Int} (h0 : 0 ≤ n) (h1 : n ≤ 4294967295) (g0 : 0 ≤ m) (g1 : m ≤ 4294967295) (h : (enc n).length < (enc m).length) : n < m := by
  have e1 := enc_size h0 h1
  have e2 := enc_size g0 g1
  rcases size_cases h0 h1 with ⟨c2, h⟩ | ⟨c1, c2, h⟩ | ⟨c1, c2, h⟩ | ⟨c1, c2, h⟩ | ⟨c1, h⟩ <;>
  rcases size_cases g0 g1 with ⟨d2, g⟩ | ⟨d1, d2, g⟩ | ⟨d1, d2, g⟩ | ⟨d1, d2, g⟩ | ⟨d1, g⟩ <;> omega

theorem decF_inv {l : List Int} {f k : Nat} {n v j : Int} (h : decF l (f + 1) k n = (v, j, 0)) : k < l.length ∧
    ((128 ≤ at_ l k ∧ decF l f (k + 1) (n + at_ l k % 128 * 128 ^ k) = (v, j, 0)) ∨ (at_ l k < 128 ∧ sizeI (n + at_ l k % 128 * 128 ^ k) = k + 1 ∧ v = n + at_ l k % 128 * 128 ^ k ∧ j = k + 1)) := by
  rw [decF] at h
  split at h
  · rename_i hk
    refine ⟨hk, ?_⟩
    split at h
    · rename_i h1; exact .inl ⟨h1, h⟩
    · rename_i h1
      split at h
      · rename_i h2
        have e1 := congrArg Prod.fst h
        have e2 := congrArg (fun x => x.2.1) h
        exact .inr ⟨by omega, h2, e1.symm, e2.symm⟩
      · have e2 := congrArg (fun x => x.2.2) h
        simp at e2
  · have e2 := congrArg (fun x => x.2.2) h
    simp at e2
theorem enc_of_size {v : Int} (s : Int) (h : sizeI v = s) (hs : s ≠ 0) : 0 ≤ v ∧ v ≤ 4294967295 := by
  unfold sizeI at h; (repeat' split at h) <;> omega
/-- What is read without a fault is the number whose code stands there. -/
theorem dec_sound {l : List Int} (hb : Byte l) {v j : Int} (h : dec l = (v, j, 0)) : 0 ≤ v ∧ v ≤ 4294967295 ∧ ((enc v).length : Int) = j ∧ (enc v).length ≤ l.length ∧ l.take (enc v).length = enc v := by
  have bd : ∀ i, i < l.length → 0 ≤ at_ l i ∧ at_ l i ≤ 255 := fun i hi => hb _ (at_mem hi)
  have tk : ∀ i, i < l.length → l.take (i + 1) = l.take i ++ [at_ l i] := fun i hi => take_snoc l i hi
  unfold dec at h
  have done : ∀ (s : Nat) (e : List Int), 0 < s → s ≤ l.length → sizeI v = s → enc v = e → e.length = s → l.take s = e → j = s → 0 ≤ v ∧ v ≤ 4294967295 ∧ ((enc v).length : Int) = j ∧ (enc v).length ≤ l.length ∧ l.take (enc v).length = enc v := by
    intro s e hs0 hs1 hsz he hel ht hj
    have hv := enc_of_size _ hsz (by omega)
    rw [he, hel]
    exact ⟨hv.1, hv.2, by omega, hs1, ht⟩
  obtain ⟨l0, ⟨b0, h0⟩ | ⟨b0, z0, v0, j0⟩⟩ := decF_inv h
  rotate_left
  · have hv := enc_of_size _ z0 (by omega)
    rw [← v0] at z0 hv
    have d0 := bd 0 (by omega)
    try simp only [Nat.zero_add, Nat.reduceAdd] at *
    have hc := size_cases hv.1 hv.2
    refine done 1 [v % 128] (by omega) (by omega) (by omega) (by unfold enc; rw [if_pos (by omega)]) rfl ?_ (by omega)
    rw [tk 0 (by omega), List.take_zero]
    simp only [List.nil_append, List.cons_append, List.cons.injEq, and_true]
    omega
  obtain ⟨l1, ⟨b1, h1⟩ | ⟨b1, z1, v1, j1⟩⟩ := decF_inv h0
  rotate_left
  · have hv := enc_of_size _ z1 (by omega)
    rw [← v1] at z1 hv
    have d0 := bd 0 (by omega)
    have d1 := bd 1 (by omega)
    try simp only [Nat.zero_add, Nat.reduceAdd] at *
    have hc := size_cases hv.1 hv.2
    refine done 2 [v % 128 + 128, v / 128 % 128] (by omega) (by omega) (by omega) (by unfold enc; rw [if_neg (by omega), if_pos (by omega)]) rfl ?_ (by omega)
    rw [tk 1 (by omega), tk 0 (by omega), List.take_zero]
    simp only [List.nil_append, List.cons_append, List.cons.injEq, and_true]
    refine ⟨?_, ?_⟩ <;> omega
  obtain ⟨l2, ⟨b2, h2⟩ | ⟨b2, z2, v2, j2⟩⟩ := decF_inv h1
  rotate_left
  · have hv := enc_of_size _ z2 (by omega)
    rw [← v2] at z2 hv
    have d0 := bd 0 (by omega)
    have d1 := bd 1 (by omega)
    have d2 := bd 2 (by omega)
    try simp only [Nat.zero_add, Nat.reduceAdd] at *
    have hc := size_cases hv.1 hv.2
    refine done 3 [v % 128 + 128, v / 128 % 128 + 128, v / 128 / 128 % 128] (by omega) (by omega) (by omega) (by unfold enc; rw [if_neg (by omega), if_neg (by omega), if_pos (by omega)]) rfl ?_ (by omega)
    rw [tk 2 (by omega), tk 1 (by omega), tk 0 (by omega), List.take_zero]
    simp only [List.nil_append, List.cons_append, List.cons.injEq, and_true]
    refine ⟨?_, ?_, ?_⟩ <;> omega
  obtain ⟨l3, ⟨b3, h3⟩ | ⟨b3, z3, v3, j3⟩⟩ := decF_inv h2
  rotate_left
  · have hv := enc_of_size _ z3 (by omega)
    rw [← v3] at z3 hv
    have d0 := bd 0 (by omega)
    have d1 := bd 1 (by omega)
    have d2 := bd 2 (by omega)
    have d3 := bd 3 (by omega)
    try simp only [Nat.zero_add, Nat.reduceAdd] at *
    have hc := size_cases hv.1 hv.2
    refine done 4 [v % 128 + 128, v / 128 % 128 + 128, v / 128 / 128 % 128 + 128, v / 128 / 128 / 128 % 128] (by omega) (by omega) (by omega) (by unfold enc; rw [if_neg (by omega), if_neg (by omega), if_neg (by omega), if_pos (by omega)]) rfl ?_ (by omega)
    rw [tk 3 (by omega), tk 2 (by omega), tk 1 (by omega), tk 0 (by omega), List.take_zero]
    simp only [List.nil_append, List.cons_append, List.cons.injEq, and_true]
    refine ⟨?_, ?_, ?_, ?_⟩ <;> omega
  obtain ⟨l4, ⟨b4, h4⟩ | ⟨b4, z4, v4, j4⟩⟩ := decF_inv h3
  rotate_left
  · have hv := enc_of_size _ z4 (by omega)
    rw [← v4] at z4 hv
    have d0 := bd 0 (by omega)
    have d1 := bd 1 (by omega)
    have d2 := bd 2 (by omega)
    have d3 := bd 3 (by omega)
    have d4 := bd 4 (by omega)
    try simp only [Nat.zero_add, Nat.reduceAdd] at *
    have hc := size_cases hv.1 hv.2
    refine done 5 [v % 128 + 128, v / 128 % 128 + 128, v / 128 / 128 % 128 + 128, v / 128 / 128 / 128 % 128 + 128, v / 128 / 128 / 128 / 128 % 128] (by omega) (by omega) (by omega) (by unfold enc; rw [if_neg (by omega), if_neg (by omega), if_neg (by omega), if_neg (by omega)]) rfl ?_ (by omega)
    rw [tk 4 (by omega), tk 3 (by omega), tk 2 (by omega), tk 1 (by omega), tk 0 (by omega), List.take_zero]
    simp only [List.nil_append, List.cons_append, List.cons.injEq, and_true]
    refine ⟨?_, ?_, ?_, ?_, ?_⟩ <;> omega
  rw [decF] at h4
  have e2 := congrArg (fun x => x.2.2) h4
  simp at e2
end Go.Proofs.Ytepkpogpekflmaa
