/-
  The law VarintPrefix answers true for all arguments: its walk. Conditions: none.
-/
import Derived.Test.YtepkpogpekflmaaC
import Derived.Test.YtepkpogpekflmaaB
import Derived.Test.YtepkpogpekflmaaR
import Derived.BigQuiet
namespace Go.Proofs.Ytepkpogpekflmaa
open Go.ChangeShapes Go.WideShapes Go.RowKit
set_option linter.unusedVariables false
attribute [local go_sem ↓] Go.wp_at_zero Go.wp_at_succ

theorem enc_pos (n : Int) : 0 < (enc n).length := by
  unfold enc; (repeat' split) <;> simp
set_option maxHeartbeats 1000000 in
theorem prefix_any (n m : Int) (w : World) (ha : -9223372036854775808 ≤ n) (hb : n ≤ 9223372036854775807) (ha' : -9223372036854775808 ≤ m) (hb' : m ≤ 9223372036854775807) :
    Calls Try.prog 6 #[.int .i64 n, .int .i64 m] w fun e w' => e = .returned (.bool true) ∧ Below w.heap.size w w' := by
  have h1 := modI_bd n 300 (by decide)
  have h2 := modI_bd m 300 (by decide)
  have h3 := near_bd n
  have h4 := near_bd m
  have h5 := modI_bd (nearI n + modI n 300) 4294967296 (by decide)
  have h6 := modI_bd (nearI m + modI m 300) 4294967296 (by decide)
  go_enter Try.func6, Try.ntmps6
  go_wp2_with fail
  refine (near_any n ha hb _).mono ?_; rintro e w1 ⟨rfl, hb1⟩
  go_wp2_with fail
  refine (mod_any n 300 (by omega) (by omega) ha hb _).mono ?_; rintro e w' ⟨rfl, rfl⟩
  go_wp2_with fail
  refine (mod_any (nearI n + modI n 300) 4294967296 (by omega) (by omega) (by omega) (by omega) _).mono ?_; rintro e w' ⟨rfl, rfl⟩
  go_wp2_with fail
  refine (near_any m ha' hb' _).mono ?_; rintro e w2 ⟨rfl, hb2⟩
  go_wp2_with fail
  refine (mod_any m 300 (by omega) (by omega) ha' hb' _).mono ?_; rintro e w' ⟨rfl, rfl⟩
  go_wp2_with fail
  refine (mod_any (nearI m + modI m 300) 4294967296 (by omega) (by omega) (by omega) (by omega) _).mono ?_; rintro e w' ⟨rfl, rfl⟩
  generalize modI (nearI n + modI n 300) 4294967296 = x at *
  generalize modI (nearI m + modI m 300) 4294967296 = y at *
  clear h1 h2 h3 h4
  go_wp2_with fail
  refine (encode_yes x h5.1 (by omega) _).mono ?_; rintro e w3 ⟨v3, rfl, hown3, hb3⟩
  obtain ⟨A3, c3, rfl, hc3, hm3, hs3⟩ := hown3.ints
  go_wp2_with fail
  refine (encode_yes y h6.1 (by omega) _).mono ?_; rintro e w4 ⟨v4, rfl, hown4, hb4⟩
  obtain ⟨A4, c4, rfl, hc4, hm4, hs4⟩ := hown4.ints
  have hs3' := hs3.grow hb4
  have hbw : Below w.heap.size w w4 := ((hb1.trans (hb2.mono hb1.size)).trans (hb3.mono (Nat.le_trans hb1.size hb2.size))).trans (hb4.mono (Nat.le_trans (Nat.le_trans hb1.size hb2.size) hb3.size))
  clear hown3 hown4 hs3 hb1 hb2 hb3 hb4
  have p3 := enc_pos x
  have p4 := enc_pos y
  have q3 : ((enc x).length : Int) ≤ 5 := by have := enc_len x; omega
  have q4 : ((enc y).length : Int) ≤ 5 := by have := enc_len y; omega
  have z3 : ¬ enc x = [] := by intro h; rw [h] at p3; simp at p3
  have z4 : ¬ enc y = [] := by intro h; rw [h] at p4; simp at p4
  have z3b : (((enc x).length : Int) == 0) = false := by simp; omega
  have z4b : (((enc y).length : Int) == 0) = false := by simp; omega
  by_cases hxy : x = y
  · subst hxy
    have hcv3 := run_str (P := Try.prog) w4 25 9 5 A3 c3 _ (enc x) Try.underlying25 Try.underlying5 Try.underlying9 hs3' (enc_byte x h5.1)
    have hcv4 := run_str (P := Try.prog) w4 25 9 5 A4 c4 _ (enc x) Try.underlying25 Try.underlying5 Try.underlying9 hs4 (enc_byte x h5.1)
    go_wp2_with (go_at_call 13; refine (awake_any _).mono ?_; rintro e w' ⟨rfl, hw⟩)
    go_ret
    exact ⟨rfl, hbw.trans (hw.mono hbw.size)⟩
  · have hxy' : (x == y) = false := by simpa using hxy
    have str : ∀ k, k = min (enc x).length (enc y).length → ((strOf ((enc x).take k)).toList == (strOf ((enc y).take k)).toList) = false := fun k hk => by
      rw [beq_eq_false_iff_ne]
      intro h
      have h2 := strOf_inj ((enc_byte x h5.1).take _) ((enc_byte y h6.1).take _) (by
        rw [ByteArray.toList_eq, ByteArray.toList_eq] at h
        exact ByteArray.ext (by simpa using h))
      exact prefix_free h5.1 (by omega) h6.1 (by omega) hxy k hk h2
    have cv3 : ∀ k, k ≤ (enc x).length → ∀ w', Below w4.heap.size w4 w' → (convert 25 9 (.slice A3 k c3)).run Try.prog w' = .ok (.string (strOf ((enc x).take k))) w' := fun k hk w' h => by
      have := run_str (P := Try.prog) w' 25 9 5 A3 c3 _ ((enc x).take k) Try.underlying25 Try.underlying5 Try.underlying9 ((hs3'.below h).take _) ((enc_byte x h5.1).take _)
      rwa [List.length_take, Nat.min_eq_left hk] at this
    have cv4 : ∀ k, k ≤ (enc y).length → ∀ w', Below w4.heap.size w4 w' → (convert 25 9 (.slice A4 k c4)).run Try.prog w' = .ok (.string (strOf ((enc y).take k))) w' := fun k hk w' h => by
      have := run_str (P := Try.prog) w' 25 9 5 A4 c4 _ ((enc y).take k) Try.underlying25 Try.underlying5 Try.underlying9 ((hs4.below h).take _) ((enc_byte y h6.1).take _)
      rwa [List.length_take, Nat.min_eq_left hk] at this
    have H3 := Lib.hid cv3
    have H4 := Lib.hid cv4
    have HS := Lib.hid str
    clear cv3 cv4 str hs3' hs4
    rcases Nat.lt_trichotomy (enc x).length (enc y).length with hl | hl | hl
    · have hcv3 := H3.out (enc x).length (by omega)
      have hcv4 := H4.out (enc x).length (by omega)
      have hstr := HS.out (enc x).length (by omega)
      rw [List.take_length] at hcv3 hstr
      have hk4 : (enc x).length ≤ c4 := by omega
      have hlt : x < y := size_mono h5.1 (by omega) h6.1 (by omega) hl
      have hd0 : decide ((enc x).length ≤ (enc y).length) = true := by simp; omega
      have hd2 : decide (x < y) = true := by simpa using hlt
      have hd1 : decide ((enc y).length ≤ (enc x).length) = false := by simp; omega
      go_wp2
      refine wp_region_grow (by kernel_rfl) (by kernel_rfl) ?_
      repeat (first
        | go_big_quiet_skip
        | (go_big_quiet_want; first
            | (go_big_quiet_op; go_big_quiet_on)
            | (refine quiet_det ?_; apply Exists.intro; refine ⟨fun w' hC => ?_, ?_⟩; (go_simp <;> (first | rfl | exact ⟨rfl, rfl⟩)); apply Exists.intro; refine ⟨?_, ?_⟩; (go_simp <;> (first | rfl | exact ⟨rfl, rfl⟩)); go_big_quiet_on)
            | (refine quiet_call ?_; apply Exists.intro; apply Exists.intro; refine ⟨fun w' hC => ?_, ?_⟩; (go_simp <;> (first | rfl | exact ⟨rfl, rfl⟩)); apply Exists.intro; refine ⟨fun w' hC => ?_, ?_⟩; exact (awake_any w').mono fun e w'' h => ⟨h.1, hC.trans (h.2.mono hC.size)⟩; apply Exists.intro; refine ⟨?_, ?_⟩; (go_simp <;> (first | rfl | exact ⟨rfl, rfl⟩)); go_big_quiet_on)))
      refine wpQuiet_nil ?_
      intro w' hw
      go_wp2
      go_ret
      exact ⟨rfl, hbw.trans (hw.mono hbw.size)⟩
    · have hl1 := Nat.le_of_eq hl
      have hl2 := Nat.le_of_eq hl.symm
      clear hl
      have hcv3 := H3.out (enc x).length (by omega)
      have hcv4 := H4.out (enc x).length (by omega)
      have hstr := HS.out (enc x).length (by omega)
      rw [List.take_length] at hcv3 hstr
      have hk4 : (enc x).length ≤ c4 := by omega
      have hd0 : decide ((enc x).length ≤ (enc y).length) = true := by simp; omega
      have hd1 : decide ((enc y).length ≤ (enc x).length) = true := by simp; omega
      go_wp2
      refine wp_region_grow (by kernel_rfl) (by kernel_rfl) ?_
      repeat (first
        | go_big_quiet_skip
        | (go_big_quiet_want; first
            | (go_big_quiet_op; go_big_quiet_on)
            | (refine quiet_det ?_; apply Exists.intro; refine ⟨fun w' hC => ?_, ?_⟩; (go_simp <;> (first | rfl | exact ⟨rfl, rfl⟩)); apply Exists.intro; refine ⟨?_, ?_⟩; (go_simp <;> (first | rfl | exact ⟨rfl, rfl⟩)); go_big_quiet_on)
            | (refine quiet_call ?_; apply Exists.intro; apply Exists.intro; refine ⟨fun w' hC => ?_, ?_⟩; (go_simp <;> (first | rfl | exact ⟨rfl, rfl⟩)); apply Exists.intro; refine ⟨fun w' hC => ?_, ?_⟩; exact (awake_any w').mono fun e w'' h => ⟨h.1, hC.trans (h.2.mono hC.size)⟩; apply Exists.intro; refine ⟨?_, ?_⟩; (go_simp <;> (first | rfl | exact ⟨rfl, rfl⟩)); go_big_quiet_on)))
      refine wpQuiet_nil ?_
      intro w' hw
      go_wp2
      go_ret
      exact ⟨rfl, hbw.trans (hw.mono hbw.size)⟩
    · have hcv3 := H3.out (enc y).length (by omega)
      have hcv4 := H4.out (enc y).length (by omega)
      have hstr := HS.out (enc y).length (by omega)
      rw [List.take_length] at hcv4 hstr
      have hk4 : (enc y).length ≤ c3 := by omega
      have hlt : y < x := size_mono h6.1 (by omega) h5.1 (by omega) hl
      have hd0 : decide ((enc x).length ≤ (enc y).length) = false := by simp; omega
      have hd2 : decide (y < x) = true := by simpa using hlt
      have hd1 : decide ((enc y).length ≤ (enc x).length) = true := by simp; omega
      go_wp2
      refine wp_region_grow (by kernel_rfl) (by kernel_rfl) ?_
      repeat (first
        | go_big_quiet_skip
        | (go_big_quiet_want; first
            | (go_big_quiet_op; go_big_quiet_on)
            | (refine quiet_det ?_; apply Exists.intro; refine ⟨fun w' hC => ?_, ?_⟩; (go_simp <;> (first | rfl | exact ⟨rfl, rfl⟩)); apply Exists.intro; refine ⟨?_, ?_⟩; (go_simp <;> (first | rfl | exact ⟨rfl, rfl⟩)); go_big_quiet_on)
            | (refine quiet_call ?_; apply Exists.intro; apply Exists.intro; refine ⟨fun w' hC => ?_, ?_⟩; (go_simp <;> (first | rfl | exact ⟨rfl, rfl⟩)); apply Exists.intro; refine ⟨fun w' hC => ?_, ?_⟩; exact (awake_any w').mono fun e w'' h => ⟨h.1, hC.trans (h.2.mono hC.size)⟩; apply Exists.intro; refine ⟨?_, ?_⟩; (go_simp <;> (first | rfl | exact ⟨rfl, rfl⟩)); go_big_quiet_on)))
      refine wpQuiet_nil ?_
      intro w' hw
      go_wp2
      go_ret
      exact ⟨rfl, hbw.trans (hw.mono hbw.size)⟩
end Go.Proofs.Ytepkpogpekflmaa
