/-
  The law MatrixAdds answers true: its walk. Conditions: none.
-/
import Derived.Test.YtibcneppmhhgiaaAw
import Derived.Test.YtibcneppmhhgiaaFb
namespace Go.Proofs.Ytibcneppmhhgiaa
open Go.ChangeShapes Go.WideShapes Go.RowKit
set_option linter.unusedVariables false

theorem and_val (y : Int) : bits .and .i64 y 1 = y % 2 := by
  show IntKind.i64.wrap (((BitVec.ofInt 64 y) &&& (BitVec.ofInt 64 1)).toNat : Int) = y % 2
  rw [BitVec.toNat_and, BitVec.toNat_ofInt, BitVec.toNat_ofInt, show ((1 : Int) % ((2 ^ 64 : Nat) : Int)).toNat = 1 by decide, Nat.and_one_is_mod]
  have e : ((2 ^ 64 : Nat) : Int) = 18446744073709551616 := by decide
  rw [e, IntKind.wrap_i64]
  omega
theorem adds_any (A : Option Addr) (c : Nat) (l : List Int) (s : Int) (w : World) (hs : Ints .i64 w w.heap.size A l) (hn : Nums l) (hl : l.length ≤ 9223372036854775807) (s0 : -9223372036854775808 ≤ s) (s1 : s ≤ 9223372036854775807) :
    Calls Try.prog 5 #[.slice A l.length c, .int .i64 s] w fun e w' => e = .returned (.bool true) ∧ Below w.heap.size w w' := by
  go_enter Try.func5, Try.ntmps5
  go_wp2_with fail
  refine (new_deck A l c w).mono ?_; rintro e w1 ⟨rfl, hd1, hb1, _⟩
  go_wp2_with fail
  refine (rows_drawn A c l w w1 hs hn hl hd1 hb1).mono ?_; rintro e W ⟨n, gc, cs, ⟨h1, h8⟩, rfl, hr⟩
  have hi := hr.ints
  have hbl := hr.below
  have hok := Lib.hid hr.ok
  obtain rfl := hr.ok.len
  clear hr hd1 hb1
  obtain ⟨M, hM, hMw, hM0, hM1⟩ : ∃ M : Nat, 2 ^ cs.length = M ∧ wrap64 ((2 : Int) ^ cs.length) = (M : Int) ∧ 0 < M ∧ M ≤ 256 := by
    refine ⟨2 ^ cs.length, rfl, wrap_pow (by omega), Nat.pow_pos (by decide), ?_⟩
    have : (2 : Nat) ^ cs.length ≤ 2 ^ 8 := Nat.pow_le_pow_right (by decide) h8
    exact this
  have HM := Lib.hid hM
  clear hM
  go_wp2_with fail
  refine (mod_any _ (M : Int) (by omega) (by omega) (by omega) (by omega) _).mono ?_; rintro e w' ⟨rfl, rfl⟩
  have hS := modI_bd s M (by omega)
  generalize modI s M = S at *
  obtain ⟨m, rfl⟩ : ∃ m : Nat, S = m := ⟨S.toNat, by omega⟩
  have hm : m < M := by omega
  clear hMw
  go_wp2_with fail
  refine (clash_any _ cs _ _ (m : Int) W hi (by omega)).mono ?_; rintro e w' ⟨p, q, rfl, hc, rfl⟩
  have HC := Lib.hid hc
  rcases hc with ⟨rfl, rfl, _⟩ | ⟨i, j, rfl, rfl, _, _, _, _, _⟩
  · go_wp2_with fail
    refine (allowed_any _ cs _ _ _ _ hi (by omega)).mono ?_; rintro e w' ⟨rfl, rfl⟩
    go_wp2
    go_loop [35] (fun v => ∃ k : Nat, k ≤ cs.length ∧ v = .int .i64 k) (fun v => cs.length - (intOf v).toNat)
    case atStart => exact ⟨0, by omega, rfl⟩
    case round =>
      obtain ⟨k, hk, rfl⟩ := hrel
      by_cases hlt : k < cs.length
      · have hmz : (m : Int) < (2 : Int) ^ cs.length := by
          have e : ((2 ^ cs.length : Nat) : Int) = (2 : Int) ^ cs.length := by simp
          rw [← e, HM.out]; omega
        have ho := or_with (x := (m : Int)) (n := cs.length) (k := k) ⟨by omega, hmz⟩ h8 hlt
        clear hmz
        go_wp2_with fail
        refine (clash_any _ cs _ _ (withB (m : Int) k) _ hi (by omega)).mono ?_; rintro e w' ⟨x, y, rfl, hx, rfl⟩
        have hf := add_free hok.out hlt (fun q => has_with (by omega) k q) HC.out hx
        have hbit : (bits .and .i64 (((alw cs m cs.length : Nat) : Int) / 2 ^ k) 1 == 1) = freeB cs m k := by
          rw [and_1]
          show hasB _ _ = _
          rw [has_nat, alw_bit, decide_eq_true hlt, Bool.true_and]
        have hb0 : (bits .and .i64 ((m : Int) / 2 ^ k) 1 == 0) = !hasB m k := by
          have h2 := and_1 ((m : Int) / 2 ^ k)
          have h3 : bits .and .i64 ((m : Int) / 2 ^ k) 1 = (m : Int) / 2 ^ k % 2 := by
            have := and_val ((m : Int) / 2 ^ k); exact this
          rw [h3]; unfold hasB
          generalize (m : Int) / 2 ^ k = y
          rcases (show y % 2 = 0 ∨ y % 2 = 1 by omega) with g | g <;> rw [g] <;> rfl
        have hfin : freeB cs m k = (decide (x < 0) && (bits .and .i64 ((m : Int) / 2 ^ k) 1 == 0)) := by rw [hb0]; exact hf
        rw [← hbit] at hfin
        clear hbit hf hb0 hx
        by_cases hx0 : x < 0
        · go_wp2
          go_round
          case rel => exact ⟨k + 1, hlt, by go_num⟩
          case measure => simp [intOf]; omega
        · go_wp2
          go_round
          case rel => exact ⟨k + 1, hlt, by go_num⟩
          case measure => simp [intOf]; omega
      · have ha := alw_meet (l := cs) (m := m) (k := cs.length) (by omega) (by rw [HM.out]; exact hm)
        go_wp2_with fail
        refine (awake_any _).mono ?_; rintro e w' ⟨rfl, hw⟩
        go_wp2
        go_ret
        exact ⟨rfl, hbl.trans (hw.mono hbl.size)⟩
  · go_wp2_with fail
    refine (awake_any _).mono ?_; rintro e w' ⟨rfl, hw⟩
    go_wp2
    go_ret
    exact ⟨rfl, hbl.trans (hw.mono hbl.size)⟩
end Go.Proofs.Ytibcneppmhhgiaa
