/-
  Clash of layer 6 and of its reference. Conditions: no more than 60 rows.
-/
import Derived.Test.YtibcneppmhhgiaaAl
namespace Go.Proofs.Ytibcneppmhhgiaa
open Go.ChangeShapes Go.WideShapes Go.RowKit
set_option linter.unusedVariables false

def pairB (l : List Int) (s : Int) (p q : Nat) : Bool := hasB s p && (hasB s q && confB l p q)
/-- The first clash of a set, or no clash. -/
def Clashes (l : List Int) (s : Int) (p q : Int) : Prop :=
  (p = -1 ∧ q = -1 ∧ ∀ i j : Nat, i < l.length → j < l.length → pairB l s i j = false) ∨
  ∃ i j : Nat, p = i ∧ q = j ∧ i < l.length ∧ j < l.length ∧ pairB l s i j = true ∧ (∀ i' j' : Nat, i' < i → j' < l.length → pairB l s i' j' = false) ∧ ∀ j' : Nat, j' < j → pairB l s i j' = false
theorem Clashes.one {l : List Int} {s p q p' q' : Int} (h : Clashes l s p q) (h' : Clashes l s p' q') : p = p' ∧ q = q' := by
  rcases h with ⟨rfl, rfl, h⟩ | ⟨i, j, rfl, rfl, hi, hj, ht, hb, hc⟩ <;> rcases h' with ⟨rfl, rfl, h'⟩ | ⟨i', j', rfl, rfl, hi', hj', ht', hb', hc'⟩
  · exact ⟨rfl, rfl⟩
  · rw [h i' j' hi' hj'] at ht'; cases ht'
  · rw [h' i j hi hj] at ht; cases ht
  · have e : i = i' := by
      rcases Nat.lt_trichotomy i i' with h | h | h
      · rw [hb' i j h hj] at ht; cases ht
      · exact h
      · rw [hb i' j' h hj'] at ht'; cases ht'
    subst e
    have e : j = j' := by
      rcases Nat.lt_trichotomy j j' with h | h | h
      · rw [hc' j h] at ht; cases ht
      · exact h
      · rw [hc j' h] at ht'; cases ht'
    subst e
    exact ⟨rfl, rfl⟩
theorem clash_any (A : Option Addr) (l : List Int) (c B : Nat) (s : Int) (w : World) (hs : Ints .i64 w B A l) (hl : l.length ≤ 60) : Calls Try.prog 15 #[.slice A l.length c, .int .i64 s] w fun e w' => ∃ p q : Int, e = .returned (.tuple #[.int .i64 p, .int .i64 q]) ∧ Clashes l s p q ∧ w = w' := by
  go_enter Try.func15, Try.ntmps15
  go_wp2
  go_loop [10] (fun v => ∃ k : Nat, k ≤ l.length ∧ v = .int .i64 k ∧ ∀ i j : Nat, i < k → j < l.length → pairB l s i j = false) (fun v => l.length - (intOf v).toNat)
  case atStart => exact ⟨0, by omega, rfl, fun i j hi => by omega⟩
  case round =>
    obtain ⟨k, hk, rfl, hB⟩ := hrel
    by_cases hlt : k < l.length
    · go_wp2
      go_loop [15] (fun v => ∃ q : Nat, q ≤ l.length ∧ v = .int .i64 q ∧ ∀ j : Nat, j < q → pairB l s k j = false) (fun v => l.length - (intOf v).toNat)
      case atStart => exact ⟨0, by omega, rfl, fun j hj => by omega⟩
      case round =>
        obtain ⟨q, hq, rfl, hC⟩ := hrel
        by_cases hltq : q < l.length
        · have hnext : pairB l s k q = false → ∀ j : Nat, j < q + 1 → pairB l s k j = false := fun hf j hj => by
            rcases Nat.lt_or_ge j q with h | h
            · exact hC j h
            · have : j = q := by omega
              subst this; exact hf
          go_wp2_with fail
          refine (has_any _ k (by omega) _).mono ?_
          by_cases h1 : hasB s k = true
          · have H1 := Lib.hid h1
            rw [h1]; clear h1; rintro e w' ⟨rfl, rfl⟩
            go_wp2_with fail
            refine (has_any _ q (by omega) _).mono ?_
            by_cases h2 : hasB s q = true
            · have H2 := Lib.hid h2
              rw [h2]; clear h2; rintro e w' ⟨rfl, rfl⟩
              go_wp2_with fail
              refine (conflict_any A l c B _ _ _ hs hl).mono ?_
              by_cases h3 : confB l k q = true
              · have H3 := Lib.hid h3
                rw [h3]; clear h3; rintro e w' ⟨rfl, rfl⟩
                go_wp2
                go_ret2
                exact ⟨k, q, rfl, .inr ⟨k, q, rfl, rfl, hlt, hltq, by rw [pairB, H1.out, H2.out, H3.out]; rfl, hB, hC⟩, rfl⟩
              · have H3 := Lib.hid (eq_false_of_ne_true h3)
                rw [eq_false_of_ne_true h3]; clear h3; rintro e w' ⟨rfl, rfl⟩
                go_wp2
                go_round
                case rel => exact ⟨q + 1, hltq, by go_num, hnext (by rw [pairB, H3.out]; simp)⟩
                case measure => simp [intOf]; omega
            · have H2 := Lib.hid (eq_false_of_ne_true h2)
              rw [eq_false_of_ne_true h2]; clear h2; rintro e w' ⟨rfl, rfl⟩
              go_wp2
              go_round
              case rel => exact ⟨q + 1, hltq, by go_num, hnext (by rw [pairB, H2.out]; simp)⟩
              case measure => simp [intOf]; omega
          · have H1 := Lib.hid (eq_false_of_ne_true h1)
            rw [eq_false_of_ne_true h1]; clear h1; rintro e w' ⟨rfl, rfl⟩
            go_wp2
            go_round
            case rel => exact ⟨q + 1, hltq, by go_num, hnext (by rw [pairB, H1.out]; rfl)⟩
            case measure => simp [intOf]; omega
        · go_wp2
          go_round
          case rel =>
            refine ⟨k + 1, hlt, by go_num, fun i j hi hj => ?_⟩
            rcases Nat.lt_or_ge i k with h | h
            · exact hB i j h hj
            · have : i = k := by omega
              subst this; exact hC j (by omega)
          case measure => simp [intOf]; omega
    · go_wp2
      go_ret2
      exact ⟨-1, -1, rfl, .inl ⟨rfl, rfl, fun i j hi hj => hB i j (by omega) hj⟩, rfl⟩
theorem rclash_any (A : Option Addr) (l : List Int) (c B : Nat) (s : Int) (w : World) (hs : Ints .i64 w B A l) (hl : l.length ≤ 60) : Calls Try.prog 16 #[.slice A l.length c, .int .i64 s] w fun e w' => ∃ p q : Int, e = .returned (.tuple #[.int .i64 p, .int .i64 q]) ∧ Clashes l s p q ∧ w = w' := by
  go_enter Try.func16, Try.ntmps16
  go_wp2
  go_loop [10] (fun v => ∃ k : Nat, k ≤ l.length ∧ v = .int .i64 k ∧ ∀ i j : Nat, i < k → j < l.length → pairB l s i j = false) (fun v => l.length - (intOf v).toNat)
  case atStart => exact ⟨0, by omega, rfl, fun i j hi => by omega⟩
  case round =>
    obtain ⟨k, hk, rfl, hB⟩ := hrel
    by_cases hlt : k < l.length
    · go_wp2
      go_loop [15] (fun v => ∃ q : Nat, q ≤ l.length ∧ v = .int .i64 q ∧ ∀ j : Nat, j < q → pairB l s k j = false) (fun v => l.length - (intOf v).toNat)
      case atStart => exact ⟨0, by omega, rfl, fun j hj => by omega⟩
      case round =>
        obtain ⟨q, hq, rfl, hC⟩ := hrel
        by_cases hltq : q < l.length
        · have hnext : pairB l s k q = false → ∀ j : Nat, j < q + 1 → pairB l s k j = false := fun hf j hj => by
            rcases Nat.lt_or_ge j q with h | h
            · exact hC j h
            · have : j = q := by omega
              subst this; exact hf
          go_wp2_with fail
          refine (in_any _ k (by omega) _).mono ?_
          by_cases h1 : hasB s k = true
          · have H1 := Lib.hid h1
            rw [h1]; clear h1; rintro e w' ⟨rfl, rfl⟩
            go_wp2_with fail
            refine (in_any _ q (by omega) _).mono ?_
            by_cases h2 : hasB s q = true
            · have H2 := Lib.hid h2
              rw [h2]; clear h2; rintro e w' ⟨rfl, rfl⟩
              go_wp2_with fail
              refine (rconflict_any A l c B _ _ _ hs hl).mono ?_
              by_cases h3 : confB l k q = true
              · have H3 := Lib.hid h3
                rw [h3]; clear h3; rintro e w' ⟨rfl, rfl⟩
                go_wp2
                go_ret2
                exact ⟨k, q, rfl, .inr ⟨k, q, rfl, rfl, hlt, hltq, by rw [pairB, H1.out, H2.out, H3.out]; rfl, hB, hC⟩, rfl⟩
              · have H3 := Lib.hid (eq_false_of_ne_true h3)
                rw [eq_false_of_ne_true h3]; clear h3; rintro e w' ⟨rfl, rfl⟩
                go_wp2
                go_round
                case rel => exact ⟨q + 1, hltq, by go_num, hnext (by rw [pairB, H3.out]; simp)⟩
                case measure => simp [intOf]; omega
            · have H2 := Lib.hid (eq_false_of_ne_true h2)
              rw [eq_false_of_ne_true h2]; clear h2; rintro e w' ⟨rfl, rfl⟩
              go_wp2
              go_round
              case rel => exact ⟨q + 1, hltq, by go_num, hnext (by rw [pairB, H2.out]; simp)⟩
              case measure => simp [intOf]; omega
          · have H1 := Lib.hid (eq_false_of_ne_true h1)
            rw [eq_false_of_ne_true h1]; clear h1; rintro e w' ⟨rfl, rfl⟩
            go_wp2
            go_round
            case rel => exact ⟨q + 1, hltq, by go_num, hnext (by rw [pairB, H1.out]; rfl)⟩
            case measure => simp [intOf]; omega
        · go_wp2
          go_round
          case rel =>
            refine ⟨k + 1, hlt, by go_num, fun i j hi hj => ?_⟩
            rcases Nat.lt_or_ge i k with h | h
            · exact hB i j h hj
            · have : i = k := by omega
              subst this; exact hC j (by omega)
          case measure => simp [intOf]; omega
    · go_wp2
      go_ret2
      exact ⟨-1, -1, rfl, .inl ⟨rfl, rfl, fun i j hi hj => hB i j (by omega) hj⟩, rfl⟩
end Go.Proofs.Ytibcneppmhhgiaa
