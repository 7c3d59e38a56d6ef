/-
  The order of claims, as a relation of lists. Conditions: none.
-/
import Derived.Test.YtikffoepndpfjaaRe
namespace Go.Proofs.Ytikffoepndpfjaa

theorem lex_irr : ∀ x : List Int, lexB x x = false
  | [] => rfl
  | x :: l => by rw [lexB, if_pos rfl, lex_irr l]
theorem lex_asym : ∀ {x y : List Int}, lexB x y = true → lexB y x = false
  | [], [], _ => rfl
  | [], _ :: _, _ => rfl
  | _ :: _, [], h => by simp [lexB] at h
  | x :: l, y :: m, h => by
    rw [lexB] at h ⊢
    by_cases e : x = y
    · rw [if_pos e] at h; rw [if_pos e.symm]; exact lex_asym h
    · rw [if_neg e] at h; rw [if_neg (fun e' => e e'.symm)]
      simp at h ⊢; omega
theorem lex_trans : ∀ {x y z : List Int}, lexB x y = true → lexB y z = true → lexB x z = true
  | [], _, _, h, _ => by simp [lexB] at h
  | _ :: _, [], _, h, _ => by simp [lexB] at h
  | _ :: _, _ :: _, [], _, h => by simp [lexB] at h
  | x :: l, y :: m, z :: k, h, h' => by
    rw [lexB] at h h' ⊢
    by_cases e : x = y
    · rw [if_pos e] at h
      by_cases e' : y = z
      · rw [if_pos e'] at h'; rw [if_pos (e.trans e')]; exact lex_trans h h'
      · rw [if_neg e'] at h'; rw [if_neg (fun q => e' (e.symm.trans q))]; subst e; exact h'
    · rw [if_neg e] at h
      by_cases e' : y = z
      · subst e'; rw [if_neg e]; exact h
      · rw [if_neg e'] at h'
        simp at h h'
        rw [if_neg (by omega)]; simp; omega
theorem lex_total : ∀ {x y : List Int}, x.length = y.length → lexB x y = false → lexB y x = false → x = y
  | [], [], _, _, _ => rfl
  | x :: l, y :: m, hl, h, h' => by
    rw [lexB] at h h'
    by_cases e : x = y
    · rw [if_pos e] at h; rw [if_pos e.symm] at h'; rw [e, lex_total (by simpa using hl) h h']
    · rw [if_neg e] at h; rw [if_neg (fun q => e q.symm)] at h'
      simp at h h'; omega
  | [], _ :: _, hl, _, _ => by simp at hl
  | _ :: _, [], hl, _, _ => by simp at hl
theorem key_eq {per cap : Int} {l : List Int} {now : Int} {x y : Cl} (h : keyC per cap l now x = keyC per cap l now y) : x.ag = y.ag ∧ x.id = y.id := by
  unfold keyC keyL at h
  simp only [List.cons.injEq] at h
  exact ⟨h.2.2.2.1, h.2.2.2.2.1⟩
theorem less_em {per cap : Int} {l : List Int} {now : Int} {x y : Cl} (hx : emB x.cl = true) (hy : emB y.cl = false) : lessC per cap l now x y = true := by
  unfold lessC keyC keyL
  rw [lexB, hx, hy]; rfl
theorem less_irr (per cap : Int) (l : List Int) (now : Int) (x : Cl) : lessC per cap l now x x = false := lex_irr _
theorem less_asym {per cap : Int} {l : List Int} {now : Int} {x y : Cl} (h : lessC per cap l now x y = true) : lessC per cap l now y x = false := lex_asym h
theorem less_trans {per cap : Int} {l : List Int} {now : Int} {x y z : Cl} (h : lessC per cap l now x y = true) (h' : lessC per cap l now y z = true) : lessC per cap l now x z = true := lex_trans h h'
theorem less_total {per cap : Int} {l : List Int} {now : Int} {x y : Cl} (h : lessC per cap l now x y = false) (h' : lessC per cap l now y x = false) : x.ag = y.ag ∧ x.id = y.id := key_eq (lex_total rfl h h')
end Go.Proofs.Ytikffoepndpfjaa
