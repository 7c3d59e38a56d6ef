/-
  Conflict of layer 6 and of its reference, at every pair. Conditions: no more than 60 rows.
-/
import Derived.Test.YtibcneppmhhgiaaRw
namespace Go.Proofs.Ytibcneppmhhgiaa
open Go.ChangeShapes Go.WideShapes Go.RowKit
set_option linter.unusedVariables false

def isRowB (c : List Int) (p : Int) : Bool := decide (0 ≤ p ∧ p < (c.length : Int))
def confB (c : List Int) (p q : Int) : Bool := isRowB c p && (isRowB c q && hasB (at_ c p.toNat) q.toNat)
theorem isRow_any (A : Option Addr) (l : List Int) (c : Nat) (p : Int) (w : World) : Calls Try.prog 22 #[.slice A l.length c, .int .i64 p] w fun e w' => e = .returned (.bool (isRowB l p)) ∧ w = w' := by
  go_enter Try.func22, Try.ntmps22
  by_cases h : 0 ≤ p
  · go_wp2
    go_ret
    exact ⟨by simp [isRowB, h], rfl⟩
  · go_wp2
    go_ret
    exact ⟨by simp [isRowB]; omega, rfl⟩
theorem conflict_any (A : Option Addr) (l : List Int) (c B : Nat) (p q : Int) (w : World) (hs : Ints .i64 w B A l) (hl : l.length ≤ 60) : Calls Try.prog 13 #[.slice A l.length c, .int .i64 p, .int .i64 q] w fun e w' => e = .returned (.bool (confB l p q)) ∧ w = w' := by
  go_enter Try.func13, Try.ntmps13
  by_cases hp : 0 ≤ p ∧ p < (l.length : Int)
  · have e1 : isRowB l p = true := by simp [isRowB, hp]
    obtain ⟨n, rfl⟩ : ∃ n : Nat, p = n := ⟨p.toNat, by omega⟩
    have hn : n < l.length := by omega
    by_cases hq : 0 ≤ q ∧ q < (l.length : Int)
    · have e2 : isRowB l q = true := by simp [isRowB, hq]
      obtain ⟨k, rfl⟩ : ∃ k : Nat, q = k := ⟨q.toNat, by omega⟩
      obtain ⟨b, off, rfl, hbB, hc⟩ := hs (by omega)
      have hcell := hc n hn
      clear hc hs
      go_wp2_with fail
      refine (isRow_any _ l c _ _).mono ?_; rw [e1]; rintro e w' ⟨rfl, rfl⟩
      go_wp2_with fail
      refine (isRow_any _ l c _ _).mono ?_; rw [e2]; rintro e w' ⟨rfl, rfl⟩
      go_wp2_with fail
      refine (has_any _ k (by omega) _).mono ?_; rintro e w' ⟨rfl, rfl⟩
      go_wp2
      go_ret
      exact ⟨by simp [confB, e1, e2], rfl⟩
    · have e2 : isRowB l q = false := by simpa [isRowB] using hq
      go_wp2_with fail
      refine (isRow_any _ l c _ _).mono ?_; rw [e1]; rintro e w' ⟨rfl, rfl⟩
      go_wp2_with fail
      refine (isRow_any _ l c _ _).mono ?_; rw [e2]; rintro e w' ⟨rfl, rfl⟩
      go_wp2
      go_ret
      exact ⟨by simp [confB, e1, e2], rfl⟩
  · have e1 : isRowB l p = false := by simpa [isRowB] using hp
    go_wp2_with fail
    refine (isRow_any _ l c _ _).mono ?_; rw [e1]; rintro e w' ⟨rfl, rfl⟩
    go_wp2
    go_ret
    exact ⟨by simp [confB, e1], rfl⟩
theorem rconflict_any (A : Option Addr) (l : List Int) (c B : Nat) (p q : Int) (w : World) (hs : Ints .i64 w B A l) (hl : l.length ≤ 60) : Calls Try.prog 14 #[.slice A l.length c, .int .i64 p, .int .i64 q] w fun e w' => e = .returned (.bool (confB l p q)) ∧ w = w' := by
  go_enter Try.func14, Try.ntmps14
  by_cases hp0 : 0 ≤ p
  · by_cases hp1 : p < (l.length : Int)
    · have e1 : isRowB l p = true := by simp [isRowB, hp0, hp1]
      obtain ⟨n, rfl⟩ : ∃ n : Nat, p = n := ⟨p.toNat, by omega⟩
      have hn : n < l.length := by omega
      obtain ⟨b, off, rfl, hbB, hc⟩ := hs (by omega)
      have hcell := hc n hn
      clear hc hs
      by_cases hq0 : 0 ≤ q
      · by_cases hq1 : q < (l.length : Int)
        · have e2 : isRowB l q = true := by simp [isRowB, hq0, hq1]
          obtain ⟨k, rfl⟩ : ∃ k : Nat, q = k := ⟨q.toNat, by omega⟩
          have hk : k < 62 := by omega
          go_wp2
          go_ret
          exact ⟨by simp [confB, e1, e2, hasB, and_1], rfl⟩
        · have e2 : isRowB l q = false := by simp [isRowB]; omega
          go_wp2
          go_ret
          exact ⟨by simp [confB, e1, e2], rfl⟩
      · have e2 : isRowB l q = false := by simp [isRowB]; omega
        go_wp2
        go_ret
        exact ⟨by simp [confB, e1, e2], rfl⟩
    · have e1 : isRowB l p = false := by simp [isRowB]; omega
      go_wp2
      go_ret
      exact ⟨by simp [confB, e1], rfl⟩
  · have e1 : isRowB l p = false := by simp [isRowB]; omega
    go_wp2
    go_ret
    exact ⟨by simp [confB, e1], rfl⟩
end Go.Proofs.Ytibcneppmhhgiaa
