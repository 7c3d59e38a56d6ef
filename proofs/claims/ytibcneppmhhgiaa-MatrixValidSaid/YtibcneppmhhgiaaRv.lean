/-
  Valid of layer 6's reference. Conditions: none.
-/
import Derived.Test.YtibcneppmhhgiaaVa
import Derived.Test.YtibcneppmhhgiaaCf
namespace Go.Proofs.Ytibcneppmhhgiaa
open Go.ChangeShapes Go.WideShapes Go.RowKit
set_option linter.unusedVariables false

theorem confB_in {l : List Int} {p q : Nat} (hp : p < l.length) (hq : q < l.length) : confB l p q = hasB (at_ l p) q := by
  have e1 : isRowB l p = true := by simp [isRowB, hp]
  have e2 : isRowB l q = true := by simp [isRowB, hq]
  simp [confB, e1, e2]
theorem rvalid_any (A : Option Addr) (l : List Int) (c B : Nat) (w : World) (hs : Ints .i64 w B A l) : Calls Try.prog 12 #[.slice A l.length c] w fun e w' => e = .returned (.bool (validB6 l)) ∧ w = w' := by
  go_enter Try.func12, Try.ntmps12
  by_cases h0 : 1 ≤ l.length
  · by_cases h8 : l.length ≤ 8
    · have hw := Lib.hid (wrap_pow' (k := l.length) (by omega))
      go_wp2
      go_loop [16] (fun v => ∃ k : Nat, k ≤ l.length ∧ v = .int .i64 k ∧ ∀ p : Nat, p < k → 0 ≤ at_ l p ∧ at_ l p < 2 ^ l.length ∧ hasB (at_ l p) p = false ∧ ∀ q : Nat, q < l.length → hasB (at_ l p) q = hasB (at_ l q) p) (fun v => l.length - (intOf v).toNat)
      case atStart => exact ⟨0, by omega, rfl, fun p hp => by omega⟩
      case round =>
        obtain ⟨k, hk, rfl, hB⟩ := hrel
        by_cases hlt : k < l.length
        · obtain ⟨b, off, rfl, hbB, hc⟩ := hs (by omega)
          have hcell := hc k hlt
          by_cases g0 : at_ l k < 0
          · go_wp2
            go_ret
            exact ⟨by rw [valid6_f (fun h => by have := (h.2.2 k hlt).1; omega)]; rfl, rfl⟩
          · have hw' := hw.out
            by_cases g1 : at_ l k < 2 ^ l.length
            · have hge : (decide ((2 : Int) ^ l.length ≤ at_ l k)) = false := by simpa using g1
              go_wp2_with fail
              refine (rconflict_any _ l c _ k k _ hs (by omega)).mono ?_
              rw [confB_in hlt hlt]
              by_cases g2 : hasB (at_ l k) k = true
              · rw [g2]; rintro e w' ⟨rfl, rfl⟩
                go_wp2
                go_ret
                exact ⟨by rw [valid6_f (fun h => by have := (h.2.2 k hlt).2.2.1; rw [g2] at this; cases this)]; rfl, rfl⟩
              · have G2 := Lib.hid (eq_false_of_ne_true g2)
                rw [eq_false_of_ne_true g2]; clear g2; rintro e w' ⟨rfl, rfl⟩
                go_wp2
                go_loop [39] (fun v => ∃ q : Nat, q ≤ l.length ∧ v = .int .i64 q ∧ ∀ j : Nat, j < q → hasB (at_ l k) j = hasB (at_ l j) k) (fun v => l.length - (intOf v).toNat)
                case atStart => exact ⟨0, by omega, rfl, fun j hj => by omega⟩
                case round =>
                  obtain ⟨q, hq, rfl, hC⟩ := hrel
                  by_cases hltq : q < l.length
                  · have hnext : hasB (at_ l k) q = hasB (at_ l q) k → ∀ j : Nat, j < q + 1 → hasB (at_ l k) j = hasB (at_ l j) k := fun hf j hj => by
                      rcases Nat.lt_or_ge j q with h | h
                      · exact hC j h
                      · have : j = q := by omega
                        subst this; exact hf
                    have HN := Lib.hid hnext
                    have HC := Lib.hid hC
                    have HB := Lib.hid hB
                    clear hnext hC hB
                    go_wp2_with fail
                    refine (rconflict_any _ l c _ k q _ hs (by omega)).mono ?_
                    rw [confB_in hlt hltq]
                    rintro e w' ⟨rfl, rfl⟩
                    go_wp2_with fail
                    refine (rconflict_any _ l c _ q k _ hs (by omega)).mono ?_
                    rw [confB_in hltq hlt]
                    rintro e w' ⟨rfl, rfl⟩
                    by_cases g3 : hasB (at_ l k) q = hasB (at_ l q) k
                    · have G3 := Lib.hid g3
                      rw [g3]; clear g3
                      go_wp2
                      go_round
                      case rel => exact ⟨q + 1, hltq, by go_num, HN.out G3.out⟩
                      case measure => simp [intOf]; omega
                    · have hv : ¬ Valid6 l := fun h => g3 (Bool.eq_iff_iff.2 ⟨fun e => (h.2.2 k hlt).2.2.2 q hltq e, fun e => (h.2.2 q hltq).2.2.2 k hlt e⟩)
                      have hne : (!hasB (at_ l k) q == hasB (at_ l q) k) = true := by revert g3; cases hasB (at_ l k) q <;> cases hasB (at_ l q) k <;> simp
                      have V := Lib.hid (valid6_f hv)
                      clear g3 hv
                      go_wp2
                      go_ret
                      exact ⟨by rw [V.out]; rfl, rfl⟩
                  · go_wp2
                    go_round
                    case rel =>
                      refine ⟨k + 1, hlt, by go_num, fun p hp => ?_⟩
                      rcases Nat.lt_or_ge p k with h | h
                      · exact hB p h
                      · have : p = k := by omega
                        subst this
                        exact ⟨by omega, g1, G2.out, fun j hj => hC j (by omega)⟩
                    case measure => simp [intOf]; omega
            · have hge : (decide ((2 : Int) ^ l.length ≤ at_ l k)) = true := by simpa using g1
              go_wp2
              go_ret
              exact ⟨by rw [valid6_f (fun h => absurd (h.2.2 k hlt).2.1 (by omega))]; rfl, rfl⟩
        · go_wp2
          go_ret
          exact ⟨by rw [valid6_t ⟨h0, h8, fun p hp => ⟨(hB p (by omega)).1, (hB p (by omega)).2.1, (hB p (by omega)).2.2.1, fun q hq e => by rw [← (hB p (by omega)).2.2.2 q hq]; exact e⟩⟩]; rfl, rfl⟩
    · go_wp2
      go_ret
      exact ⟨by rw [valid6_f (fun h => h8 h.2.1)]; rfl, rfl⟩
  · go_wp2
    go_ret
    exact ⟨by rw [valid6_f (fun h => h0 h.1)]; rfl, rfl⟩
end Go.Proofs.Ytibcneppmhhgiaa
