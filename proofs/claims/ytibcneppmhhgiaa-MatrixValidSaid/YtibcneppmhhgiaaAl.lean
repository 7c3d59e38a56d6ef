/-
  Allowed of layer 6 and of its reference. Conditions: no more than 60 rows.
-/
import Derived.Test.YtibcneppmhhgiaaCf
import Derived.Lib.Hide
namespace Go.Proofs.Ytibcneppmhhgiaa
open Go.ChangeShapes Go.WideShapes Go.RowKit
set_option linter.unusedVariables false

def hitB (c : List Int) (s : Int) (p q : Nat) : Bool := hasB s q && confB c p q
/-- Does p conflict with an element below k of the set? -/
def meetTo (c : List Int) (s : Int) (p k : Nat) : Bool := (List.range k).any (hitB c s p)
theorem meetTo_zero (c : List Int) (s : Int) (p : Nat) : meetTo c s p 0 = false := rfl
theorem meetTo_succ (c : List Int) (s : Int) (p k : Nat) : meetTo c s p (k + 1) = (meetTo c s p k || hitB c s p k) := by
  simp [meetTo, List.range_succ, List.any_append]
theorem meetTo_le {c : List Int} {s : Int} {p k m : Nat} (h : meetTo c s p k = true) (hk : k ≤ m) : meetTo c s p m = true := by
  simp only [meetTo, List.any_eq_true, List.mem_range] at h ⊢
  obtain ⟨q, hq, h⟩ := h
  exact ⟨q, by omega, h⟩
theorem in_any (x : Int) (k : Nat) (hk : k < 64) (w : World) : Calls Try.prog 23 #[.int .i64 x, .int .i64 k] w fun e w' => e = .returned (.bool (hasB x k)) ∧ w = w' := by
  go_enter Try.func23, Try.ntmps23
  go_wp2
  go_ret
  exact ⟨by simp [hasB, and_1], rfl⟩
theorem meets_any (A : Option Addr) (l : List Int) (c B p : Nat) (s : Int) (w : World) (hs : Ints .i64 w B A l) (hl : l.length ≤ 60) (hp : p < l.length) : Calls Try.prog 24 #[.slice A l.length c, .int .i64 p, .int .i64 s] w fun e w' => e = .returned (.bool (meetTo l s p l.length)) ∧ w = w' := by
  go_enter Try.func24, Try.ntmps24
  go_wp2
  go_loop [10] (fun v => ∃ k : Nat, k ≤ l.length ∧ v = .int .i64 k ∧ meetTo l s p k = false) (fun v => l.length - (intOf v).toNat)
  case atStart => exact ⟨0, by omega, rfl, rfl⟩
  case round =>
    obtain ⟨k, hk, rfl, hm⟩ := hrel
    by_cases hlt : k < l.length
    · go_wp2_with fail
      refine (has_any _ k (by omega) _).mono ?_
      by_cases h1 : hasB s k = true
      · rw [h1]; rintro e w' ⟨rfl, rfl⟩
        go_wp2_with fail
        refine (conflict_any A l c B _ _ _ hs hl).mono ?_
        by_cases h2 : confB l p k = true
        · rw [h2]; rintro e w' ⟨rfl, rfl⟩
          have hm2 : meetTo l s p l.length = true := meetTo_le (k := k + 1) (by rw [meetTo_succ, hitB, h1, h2]; simp) hlt
          go_wp2
          go_ret
          exact ⟨by rw [hm2]; rfl, rfl⟩
        · rw [eq_false_of_ne_true h2]; rintro e w' ⟨rfl, rfl⟩
          go_wp2
          go_round
          case rel => exact ⟨k + 1, hlt, by go_num, by rw [meetTo_succ, hm, hitB, eq_false_of_ne_true h2]; simp⟩
          case measure => simp [intOf]; omega
      · rw [eq_false_of_ne_true h1]; rintro e w' ⟨rfl, rfl⟩
        go_wp2
        go_round
        case rel => exact ⟨k + 1, hlt, by go_num, by rw [meetTo_succ, hm, hitB, eq_false_of_ne_true h1]; simp⟩
        case measure => simp [intOf]; omega
    · have e : k = l.length := by omega
      go_wp2
      go_ret
      exact ⟨by rw [← e, hm]; rfl, rfl⟩
/-- May p be added to the set? -/
def freeB (l : List Int) (s : Int) (p : Nat) : Bool := !hasB s p && !meetTo l s p l.length
/-- The elements below k that may be added. -/
def alw (l : List Int) (s : Int) : Nat → Nat
  | 0 => 0
  | k + 1 => alw l s k + if freeB l s k then 2 ^ k else 0
theorem alw_lt (l : List Int) (s : Int) (k : Nat) : alw l s k < 2 ^ k := by
  induction k with
  | zero => simp [alw]
  | succ k ih => rw [alw, Nat.pow_succ]; split <;> omega
theorem pow_60 {k : Nat} (h : k ≤ 60) : (2 : Nat) ^ k ≤ 1152921504606846976 := Nat.pow_le_pow_right (by decide) h
theorem or_pow {a k : Nat} (ha : a < 2 ^ k) (hk : k ≤ 60) : bits .or .i64 (a : Int) ((2 ^ k : Nat) : Int) = ((a + 2 ^ k : Nat) : Int) := by
  have h1 := pow_60 hk
  have e : (2 : Nat) ^ 62 = 4611686018427387904 := by decide
  rw [(bits_nat .i64 62 (by decide) (fun n h0 h1 => by rw [IntKind.wrap_i64]; omega) a (2 ^ k) (by omega) (by omega)).2]
  have := Nat.two_pow_add_eq_or_of_lt ha 1
  rw [Nat.mul_one] at this
  rw [Nat.or_comm, ← this, Nat.add_comm]
theorem wrap64_fit (n : Int) (h : -9223372036854775808 ≤ n ∧ n ≤ 9223372036854775807) : wrap64 n = n := by unfold wrap64; omega
theorem wrap_pow {k : Nat} (hk : k ≤ 60) : wrap64 ((2 : Int) ^ k) = ((2 ^ k : Nat) : Int) := by
  have h1 := pow_60 hk
  have e : ((2 ^ k : Nat) : Int) = (2 : Int) ^ k := by simp
  rw [← e]
  generalize (2 : Nat) ^ k = m at *
  exact wrap64_fit _ (by omega)
theorem allowed_any (A : Option Addr) (l : List Int) (c B : Nat) (s : Int) (w : World) (hs : Ints .i64 w B A l) (hl : l.length ≤ 60) : Calls Try.prog 17 #[.slice A l.length c, .int .i64 s] w fun e w' => e = .returned (.int .i64 (alw l s l.length)) ∧ w = w' := by
  go_enter Try.func17, Try.ntmps17
  go_wp2
  go_loop [5, 9] (fun va v => ∃ k : Nat, k ≤ l.length ∧ v = .int .i64 k ∧ va = .int .i64 (alw l s k : Nat)) (fun _ v => l.length - (intOf v).toNat)
  case atStart => exact ⟨0, by omega, rfl, rfl⟩
  case round =>
    obtain ⟨k, hk, rfl, rfl⟩ := hrel
    by_cases hlt : k < l.length
    · have hp := pow_60 (k := k) (by omega)
      have ho := or_pow (alw_lt l s k) (by omega)
      go_wp2_with fail
      refine (has_any _ k (by omega) _).mono ?_
      by_cases h1 : hasB s k = true
      · rw [h1]; rintro e w' ⟨rfl, rfl⟩
        go_wp2
        go_round
        case rel => exact ⟨k + 1, hlt, by go_num, by rw [alw, freeB, h1]; simp⟩
        case measure => simp [intOf]; omega
      · rw [eq_false_of_ne_true h1]; rintro e w' ⟨rfl, rfl⟩
        go_wp2_with fail
        refine (meets_any A l c B k s _ hs hl hlt).mono ?_
        by_cases h2 : meetTo l s k l.length = true
        · rw [h2]; rintro e w' ⟨rfl, rfl⟩
          go_wp2
          go_round
          case rel => exact ⟨k + 1, hlt, by go_num, by rw [alw, freeB, h2]; simp⟩
          case measure => simp [intOf]; omega
        · rw [eq_false_of_ne_true h2]; rintro e w' ⟨rfl, rfl⟩
          go_wp2
          go_round
          case rel => exact ⟨k + 1, hlt, by go_num, by rw [wrap_pow (by omega), ho, alw, freeB, eq_false_of_ne_true h1, eq_false_of_ne_true h2]; simp⟩
          case measure => simp [intOf]; omega
    · have e : k = l.length := by omega
      go_wp2
      go_ret
      exact ⟨by rw [← e]; rfl, rfl⟩
theorem rallowed_any (A : Option Addr) (l : List Int) (c B : Nat) (s : Int) (w : World) (hs : Ints .i64 w B A l) (hl : l.length ≤ 60) : Calls Try.prog 18 #[.slice A l.length c, .int .i64 s] w fun e w' => e = .returned (.int .i64 (alw l s l.length)) ∧ w = w' := by
  go_enter Try.func18, Try.ntmps18
  go_wp2
  go_loop [5, 11] (fun va v => ∃ k : Nat, k ≤ l.length ∧ v = .int .i64 k ∧ va = .int .i64 (alw l s k : Nat)) (fun _ v => l.length - (intOf v).toNat)
  case atStart => exact ⟨0, by omega, rfl, rfl⟩
  case round =>
    obtain ⟨k, hk, rfl, rfl⟩ := hrel
    by_cases hlt : k < l.length
    · have hp := pow_60 (k := k) (by omega)
      have ha := alw_lt l s k
      go_wp2_with fail
      refine (in_any _ k (by omega) _).mono ?_; rintro e w' ⟨rfl, rfl⟩
      go_wp2
      go_loop [7, 20] (fun vo v => ∃ q : Nat, q ≤ l.length ∧ v = .int .i64 q ∧ vo = .bool (!hasB s k && !meetTo l s k q)) (fun _ v => l.length - (intOf v).toNat)
      case atStart => exact ⟨0, by omega, rfl, by simp [meetTo_zero]⟩
      case round =>
        obtain ⟨q, hq, rfl, rfl⟩ := hrel
        by_cases hltq : q < l.length
        · by_cases h0 : (!hasB s k && !meetTo l s k q) = true
          · rw [h0]
            simp only [Bool.and_eq_true, Bool.not_eq_true'] at h0
            have H0 := Lib.hid h0
            clear h0
            go_wp2_with fail
            refine (in_any _ q (by omega) _).mono ?_
            by_cases h1 : hasB s q = true
            · rw [h1]; rintro e w' ⟨rfl, rfl⟩
              go_wp2_with fail
              refine (rconflict_any A l c B _ _ _ hs hl).mono ?_; rintro e w' ⟨rfl, rfl⟩
              go_wp2
              go_round
              case rel => exact ⟨q + 1, hltq, by go_num, by rw [meetTo_succ, hitB, H0.out.1, H0.out.2, h1]; simp⟩
              case measure => simp [intOf]; omega
            · rw [eq_false_of_ne_true h1]; rintro e w' ⟨rfl, rfl⟩
              go_wp2
              go_round
              case rel => exact ⟨q + 1, hltq, by go_num, by rw [meetTo_succ, hitB, H0.out.1, H0.out.2, eq_false_of_ne_true h1]; simp⟩
              case measure => simp [intOf]; omega
          · have h0' := eq_false_of_ne_true h0
            rw [h0']
            go_wp2
            go_round
            case rel =>
              refine ⟨q + 1, hltq, by go_num, ?_⟩
              rw [meetTo_succ]
              revert h0'
              cases hasB s k <;> cases meetTo l s k q <;> simp
            case measure => simp [intOf]; omega
        · have e : q = l.length := by omega
          subst e
          by_cases h0 : (!hasB s k && !meetTo l s k l.length) = true
          · rw [h0]
            have H0 := Lib.hid h0
            clear h0
            go_wp2
            go_round
            case rel =>
              refine ⟨k + 1, hlt, by go_num, ?_⟩
              rw [wrap_pow (by omega), wrap64_fit _ (by omega), alw, freeB, H0.out]
              simp
            case measure => simp [intOf]; omega
          · rw [eq_false_of_ne_true h0]
            have H0 := Lib.hid (eq_false_of_ne_true h0)
            clear h0
            go_wp2
            go_round
            case rel => exact ⟨k + 1, hlt, by go_num, by rw [alw, freeB, H0.out]; simp⟩
            case measure => simp [intOf]; omega
    · have e : k = l.length := by omega
      go_wp2
      go_ret
      exact ⟨by rw [← e]; rfl, rfl⟩
end Go.Proofs.Ytibcneppmhhgiaa
