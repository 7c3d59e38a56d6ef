/-
  Valid of layer 6. Conditions: none.
-/
import Derived.Test.YtngdaieopnadbaaJn
import Derived.Test.YtngdaieopnadbaaCo
namespace Go.Proofs.Ytngdaieopnadbaa
open Go.ChangeShapes Go.WideShapes Go.RowKit
set_option linter.unusedVariables false

/-- The rows are valid. -/
def Valid6 (l : List Int) : Prop := 1 ≤ l.length ∧ l.length ≤ 8 ∧ ∀ p : Nat, p < l.length → 0 ≤ at_ l p ∧ at_ l p < 2 ^ l.length ∧ hasB (at_ l p) p = false ∧ ∀ q : Nat, q < l.length → hasB (at_ l p) q = true → hasB (at_ l q) p = true
open Classical in
noncomputable def validB6 (l : List Int) : Bool := decide (Valid6 l)
open Classical in
theorem valid6_t {l : List Int} (h : Valid6 l) : validB6 l = true := by unfold validB6; exact decide_eq_true h
open Classical in
theorem valid6_f {l : List Int} (h : ¬ Valid6 l) : validB6 l = false := by unfold validB6; exact decide_eq_false h
theorem wrap_pow' {k : Nat} (hk : k ≤ 60) : wrap64 ((2 : Int) ^ k) = (2 : Int) ^ k := by rw [wrap_pow hk]; simp
theorem valid_any (A : Option Addr) (l : List Int) (c B : Nat) (w : World) (hs : Ints .i64 w B A l) : Calls Try.prog 29 #[.slice A l.length c] w fun e w' => e = .returned (.bool (validB6 l)) ∧ w = w' := by
  go_enter Try.func29, Try.ntmps29
  by_cases h0 : 1 ≤ l.length
  · by_cases h8 : l.length ≤ 8
    · have hw := Lib.hid (wrap_pow' (k := l.length) (by omega))
      go_wp2
      go_loop [16] (fun v => ∃ k : Nat, k ≤ l.length ∧ v = .int .i64 k ∧ ∀ p : Nat, p < k → 0 ≤ at_ l p ∧ at_ l p < 2 ^ l.length ∧ hasB (at_ l p) p = false ∧ ∀ q : Nat, q < l.length → hasB (at_ l p) q = true → hasB (at_ l q) p = true) (fun v => l.length - (intOf v).toNat)
      case atStart => exact ⟨0, by omega, rfl, fun p hp => by omega⟩
      case round =>
        obtain ⟨k, hk, rfl, hB⟩ := hrel
        by_cases hlt : k < l.length
        · obtain ⟨b, off, rfl, hbB, hc⟩ := hs (by omega)
          have hcell := hc k hlt
          by_cases g0 : at_ l k < 0
          · go_wp2
            go_ret
            exact ⟨by rw [valid6_f (fun h => by have := (h.2.2 k hlt).1; omega)]; rfl, rfl⟩
          · have hw' := hw.out
            by_cases g1 : at_ l k < 2 ^ l.length
            · have hge : (decide ((2 : Int) ^ l.length ≤ at_ l k)) = false := by simpa using g1
              go_wp2_with fail
              refine (has_any _ k (by omega) _).mono ?_
              by_cases g2 : hasB (at_ l k) k = true
              · rw [g2]; rintro e w' ⟨rfl, rfl⟩
                go_wp2
                go_ret
                exact ⟨by rw [valid6_f (fun h => by have := (h.2.2 k hlt).2.2.1; rw [g2] at this; cases this)]; rfl, rfl⟩
              · have G2 := Lib.hid (eq_false_of_ne_true g2)
                rw [eq_false_of_ne_true g2]; clear g2; rintro e w' ⟨rfl, rfl⟩
                go_wp2
                go_loop [37] (fun v => ∃ q : Nat, q ≤ l.length ∧ v = .int .i64 q ∧ ∀ j : Nat, j < q → hasB (at_ l k) j = true → hasB (at_ l j) k = true) (fun v => l.length - (intOf v).toNat)
                case atStart => exact ⟨0, by omega, rfl, fun j hj => by omega⟩
                case round =>
                  obtain ⟨q, hq, rfl, hC⟩ := hrel
                  by_cases hltq : q < l.length
                  · have hcellq := hc q hltq
                    have hnext : (hasB (at_ l k) q = true → hasB (at_ l q) k = true) → ∀ j : Nat, j < q + 1 → hasB (at_ l k) j = true → hasB (at_ l j) k = true := fun hf j hj => by
                      rcases Nat.lt_or_ge j q with h | h
                      · exact hC j h
                      · have : j = q := by omega
                        subst this; exact hf
                    go_wp2_with fail
                    refine (has_any _ q (by omega) _).mono ?_
                    by_cases g3 : hasB (at_ l k) q = true
                    · have G3 := Lib.hid g3
                      rw [g3]; clear g3; rintro e w' ⟨rfl, rfl⟩
                      go_wp2_with fail
                      refine (has_any _ k (by omega) _).mono ?_
                      by_cases g4 : hasB (at_ l q) k = true
                      · have G4 := Lib.hid g4
                        rw [g4]; clear g4; rintro e w' ⟨rfl, rfl⟩
                        go_wp2
                        go_round
                        case rel => exact ⟨q + 1, hltq, by go_num, hnext (fun _ => G4.out)⟩
                        case measure => simp [intOf]; omega
                      · have G4 := Lib.hid g4
                        rw [eq_false_of_ne_true g4]; clear g4; rintro e w' ⟨rfl, rfl⟩
                        go_wp2
                        go_ret
                        exact ⟨by rw [valid6_f (fun h => G4.out ((h.2.2 k hlt).2.2.2 q hltq G3.out))]; rfl, rfl⟩
                    · have G3 := Lib.hid g3
                      rw [eq_false_of_ne_true g3]; clear g3; rintro e w' ⟨rfl, rfl⟩
                      go_wp2
                      go_round
                      case rel => exact ⟨q + 1, hltq, by go_num, hnext (fun h => absurd h G3.out)⟩
                      case measure => simp [intOf]; omega
                  · go_wp2
                    go_round
                    case rel =>
                      refine ⟨k + 1, hlt, by go_num, fun p hp => ?_⟩
                      rcases Nat.lt_or_ge p k with h | h
                      · exact hB p h
                      · have : p = k := by omega
                        subst this
                        exact ⟨by omega, g1, G2.out, fun j hj => hC j (by omega)⟩
                    case measure => simp [intOf]; omega
            · have hge : (decide ((2 : Int) ^ l.length ≤ at_ l k)) = true := by simpa using g1
              go_wp2
              go_ret
              exact ⟨by rw [valid6_f (fun h => absurd (h.2.2 k hlt).2.1 (by omega))]; rfl, rfl⟩
        · go_wp2
          go_ret
          exact ⟨by rw [valid6_t ⟨h0, h8, fun p hp => hB p (by omega)⟩]; rfl, rfl⟩
    · go_wp2
      go_ret
      exact ⟨by rw [valid6_f (fun h => h8 h.2.1)]; rfl, rfl⟩
  · go_wp2
    go_ret
    exact ⟨by rw [valid6_f (fun h => h0 h.1)]; rfl, rfl⟩
end Go.Proofs.Ytngdaieopnadbaa
