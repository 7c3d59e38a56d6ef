/-
  The law MatrixSubsets answers true: its walk. Conditions: none.
-/
import Derived.Test.YtibcneppmhhgiaaAw
import Derived.Test.YtibcneppmhhgiaaFa
namespace Go.Proofs.Ytibcneppmhhgiaa
open Go.ChangeShapes Go.WideShapes Go.RowKit
set_option linter.unusedVariables false

theorem subsets_any (A : Option Addr) (c : Nat) (l : List Int) (s part : Int) (w : World) (hs : Ints .i64 w w.heap.size A l) (hn : Nums l) (hl : l.length ≤ 9223372036854775807) (s0 : -9223372036854775808 ≤ s) (s1 : s ≤ 9223372036854775807) (p0 : -9223372036854775808 ≤ part) (p1 : part ≤ 9223372036854775807) :
    Calls Try.prog 6 #[.slice A l.length c, .int .i64 s, .int .i64 part] w fun e w' => e = .returned (.bool true) ∧ Below w.heap.size w w' := by
  go_enter Try.func6, Try.ntmps6
  go_wp2_with fail
  refine (new_deck A l c w).mono ?_; rintro e w1 ⟨rfl, hd1, hb1, _⟩
  go_wp2_with fail
  refine (rows_drawn A c l w w1 hs hn hl hd1 hb1).mono ?_; rintro e W ⟨n, gc, cs, ⟨h1, h8⟩, rfl, hr⟩
  have hi := hr.ints
  have hbl := hr.below
  have hok := Lib.hid hr.ok
  obtain rfl := hr.ok.len
  clear hr hd1 hb1
  go_wp2_with fail
  refine (mod_any _ 256 (by omega) (by omega) (by omega) (by omega) _).mono ?_; rintro e w' ⟨rfl, rfl⟩
  have hS := modI_bd s 256 (by omega)
  generalize modI s 256 = S at *
  obtain ⟨b0, b1, hsub⟩ := and_sub part S hS
  have HS := Lib.hid hsub
  clear hsub
  go_wp2_with fail
  generalize bits .and .i64 part S = P at *
  refine (clash_any _ cs _ _ S W hi (by omega)).mono ?_; rintro e w' ⟨p, q, rfl, hc, rfl⟩
  go_wp2_with fail
  refine (clash_any _ cs _ _ P _ hi (by omega)).mono ?_; rintro e w' ⟨p', q', rfl, hc', rfl⟩
  have HC := Lib.hid hc
  rcases hc with ⟨rfl, rfl, _⟩ | ⟨i, j, rfl, rfl, hi1, hj1, ht, hb', _⟩
  · obtain ⟨rfl, rfl⟩ := hc'.one (sub_none HS.out HC.out)
    clear hc'
    have hz : bits .andNot .i64 (alw cs S cs.length : Nat) (alw cs P cs.length : Nat) = 0 := by
      have g1 := alw_lt cs S cs.length
      have g2 := alw_lt cs P cs.length
      have g3 : (2 : Nat) ^ cs.length ≤ 2 ^ 60 := Nat.pow_le_pow_right (by decide) (by omega)
      refine andNot_zero (by omega) (by omega) fun p hp => ?_
      rw [alw_bit, Bool.and_eq_true] at hp ⊢
      exact ⟨hp.1, free_sub HS.out hp.2⟩
    go_wp2_with fail
    refine (allowed_any _ cs _ _ S _ hi (by omega)).mono ?_; rintro e w' ⟨rfl, rfl⟩
    go_wp2_with fail
    refine (allowed_any _ cs _ _ P _ hi (by omega)).mono ?_; rintro e w' ⟨rfl, rfl⟩
    go_wp2_with fail
    refine (awake_any _).mono ?_; rintro e w' ⟨rfl, hw⟩
    go_wp2
    go_ret
    exact ⟨rfl, hbl.trans (hw.mono hbl.size)⟩
  · have hlt := clash_lt hok.out hi1 hj1 ht hb'
    have hcf : confB cs i j = true := by simp only [pairB, Bool.and_eq_true] at ht; exact ht.2.2
    have hbi : (bits .and .i64 (S / 2 ^ i) 1 == 1) = true := by simp only [pairB, Bool.and_eq_true] at ht; rw [and_1]; exact ht.1
    have hbj : (bits .and .i64 (S / 2 ^ j) 1 == 1) = true := by simp only [pairB, Bool.and_eq_true] at ht; rw [and_1]; exact ht.2.1
    clear ht hb'
    rcases hc' with ⟨rfl, rfl, _⟩ | ⟨i', j', rfl, rfl, hi2, hj2, _, _, _⟩
    · go_wp2_with fail
      refine (conflict_any _ cs _ _ _ _ _ hi (by omega)).mono ?_; rw [hcf]; rintro e w' ⟨rfl, rfl⟩
      go_wp2_with fail
      refine (awake_any _).mono ?_; rintro e w' ⟨rfl, hw⟩
      go_wp2
      go_ret
      exact ⟨rfl, hbl.trans (hw.mono hbl.size)⟩
    · go_wp2_with fail
      refine (conflict_any _ cs _ _ _ _ _ hi (by omega)).mono ?_; rw [hcf]; rintro e w' ⟨rfl, rfl⟩
      go_wp2_with fail
      refine (awake_any _).mono ?_; rintro e w' ⟨rfl, hw⟩
      go_wp2
      go_ret
      exact ⟨rfl, hbl.trans (hw.mono hbl.size)⟩
end Go.Proofs.Ytibcneppmhhgiaa
