/-
  The law CrcBursts answers true for all arguments: its walk. Conditions: none.
-/
import Derived.Test.YtgndnamgglihlaaW
import Derived.Test.YtgndnamgglihlaaJ
import Derived.Test.YtgndnamgglihlaaBm
namespace Go.Proofs.Ytgndnamgglihlaa
open Go.ChangeShapes Go.WideShapes Go.RowKit
set_option linter.unusedVariables false

/-- The remainder that is never negative, of a positive divisor. -/
def modI (a m : Int) : Int := if a.tmod m < 0 then a.tmod m + m else a.tmod m
theorem modI_bd (a m : Int) (h : 0 < m) : 0 ≤ modI a m ∧ modI a m < m := by
  have h1 := Int.tmod_lt_of_pos a h
  have h2 : -m < a.tmod m := by have := Int.lt_tmod_of_pos a h; omega
  unfold modI; split <;> omega
theorem mod_any (a m : Int) (h0 : 0 < m) (h1 : m ≤ 1000000000) (ha : -9223372036854775808 ≤ a) (hb : a ≤ 9223372036854775807) (w : World) : Calls Try.prog 14 #[.int .i64 a, .int .i64 m] w fun e w' => e = .returned (.int .i64 (modI a m)) ∧ w = w' := by
  have g1 := Int.tmod_lt_of_pos a h0
  have g2 : -m < a.tmod m := by have := Int.lt_tmod_of_pos a h0; omega
  have g0 : (m == 0) = false := by simp; omega
  go_enter Try.func14, Try.ntmps14
  go_wp2
  all_goals go_ret
  all_goals exact ⟨by simp_all [modI]; try omega, rfl⟩

theorem turned_none (ch a t : Nat) : turned ch a 0 t = false := by unfold turned; simp; omega
theorem bit_test (ch k : Nat) (h : ch < 4294967296) : (bits .and .u32 ((ch : Int) / 2 ^ k) 1 == 1) = ch.testBit k := by
  have e : (ch : Int) / 2 ^ k = ((ch / 2 ^ k : Nat) : Int) := by simp
  have hlt : ch / 2 ^ k < 4294967296 := Nat.lt_of_le_of_lt (Nat.div_le_self _ _) h
  rw [e, show (1 : Int) = ((1 : Nat) : Int) from rfl, u32_and_nat _ _ hlt (by omega), show (1 : Nat) = 2 ^ 1 - 1 from rfl, Nat.and_two_pow_sub_one_eq_mod, Nat.testBit_eq_decide_div_mod_eq]
  rw [Bool.eq_iff_iff]; simp; omega
theorem pow_byte (n : Nat) : (2 : Int) ^ (n % 8) % 256 = ((2 ^ (n % 8) : Nat) : Int) := by
  have h2 : 2 ^ (n % 8) < 2 ^ 8 := Nat.pow_lt_pow_right (by omega) (by omega)
  have e : (2 : Int) ^ (n % 8) = ((2 ^ (n % 8) : Nat) : Int) := by simp
  rw [e]; generalize 2 ^ (n % 8) = m at h2 ⊢; omega
theorem turned_far {ch a k n t : Nat} (h : ¬ a + k < n) (ht : t < n) : turned ch a (k + 1) t = turned ch a k t := by
  rw [turned_next]; simp [show ¬ t = a + k by omega]
theorem turned_no {ch a k : Nat} (h : ¬ ch.testBit k = true) (t : Nat) : turned ch a (k + 1) t = turned ch a k t := by
  rw [turned_next]; simp [h]
set_option maxHeartbeats 1000000 in
theorem bursts_any (A : Option Addr) (c : Nat) (b : List Int) (at' : Int) (change : Int) (w : World)
    (hs : Ints .u8 w w.heap.size A b) (hb : Byte b) (hl : b.length ≤ 9223372036854775807) (a0 : -9223372036854775808 ≤ at') (a1 : at' ≤ 9223372036854775807) (s0 : 0 ≤ change) (s1 : change ≤ 4294967295) :
    Calls Try.prog 5 #[.slice A b.length c, .int .i64 at', .int .u32 change] w fun e w' => e = .returned (.bool true) ∧ Below w.heap.size w w' := by
  obtain ⟨ch, rfl⟩ : ∃ n : Nat, change = n := Int.eq_ofNat_of_zero_le s0
  have HS := Lib.hid s1
  clear s1
  by_cases h1 : b.length ≤ 600
  · by_cases h2 : 0 < b.length
    · by_cases h3 : ch = 0
      · obtain rfl : ch = 0 := h3
        have h2a : ¬ b = [] := by rintro rfl; simp at h2
        have h2b : ((b.length : Int) == 0) = false := by simp; omega
        go_enter Try.func5, Try.ntmps5
        go_wp2_with (first
          | (go_at_call 8; refine (short_any _ _ _ _ (by assumption)).mono ?_; rintro e w' ⟨rfl, rfl⟩)
          | (go_at_call 9; refine (awake_any _).mono ?_; rintro e w' ⟨rfl, hw⟩))
        go_ret
        exact ⟨rfl, hw⟩
      · have h3' : ((ch : Int) == 0) = false := by simp; omega
        have h2a : ¬ b = [] := by rintro rfl; simp at h2
        have h2b : ((b.length : Int) == 0) = false := by simp; omega
        have hmod := modI_bd at' (8 * b.length) (by omega)
        obtain ⟨a, ha⟩ : ∃ n : Nat, modI at' (8 * b.length) = n := Int.eq_ofNat_of_zero_le hmod.1
        rw [ha] at hmod
        have HA := Lib.hid ha
        clear ha
        go_enter Try.func5, Try.ntmps5
        go_wp2_with (first
          | (go_at_call 8; refine (short_any _ _ _ _ (by assumption)).mono ?_; rintro e w' ⟨rfl, rfl⟩)
          | (at_builtin; refine wpList_append_ints rfl (.const (.slice none 0 0)) (.tmp 23) _ rfl w.heap.size 5 .u8 1 Try.underlying22 byte_info (.slice none 0 0) [] rfl (Own.nil_ _ _ _ _) A c b b.length rfl rfl hs (by simp; omega) (by omega) (Nat.le_refl _) ?_; intro v1 w1 hown1 hg1 hat1; rw [List.nil_append] at hown1; have hb1 : Below w.heap.size w w1 := (Below.refl _ _).grown hg1 (Nat.le_refl _) (by simp [Value.ownBlock]); clear hg1 hat1)
          | (go_at_call 14; refine (mod_any _ _ (by omega) (by omega) (by omega) (by omega) _).mono ?_; rw [HA.out]; rintro e w' ⟨rfl, rfl⟩))
        obtain ⟨g, cap, rfl, hbg, hg1⟩ := hown1.form h2
        have HL := Lib.hid (show b.length = b.length from rfl)
        go_loopw [8, 30] (fun x i wr => ∃ (k : Nat) (C : List Int) (cg : Bool), k ≤ 32 ∧ i = .int .i64 k ∧ x = .bool cg ∧ C.length = b.length ∧ Byte C ∧ Own .u8 5 wr w.heap.size (.slice (some ⟨g, 0, none⟩) b.length cap) C ∧ Below w.heap.size w wr ∧
          (∀ t, t < 8 * b.length → bitsOf C t = (bitsOf b t ^^ turned ch a k t)) ∧ (cg = true ↔ ∃ t, t < 8 * b.length ∧ turned ch a k t = true)) (fun _ i _ => 32 - (intOf i).toNat)
        case atStart => exact ⟨0, b, false, by omega, rfl, rfl, rfl, hb, hown1, hb1, fun t _ => by rw [turned_none, Bool.xor_false], by simp [turned_none]⟩
        case round =>
          obtain ⟨k, C, cg, hk, rfl, rfl, hCl, hCb, hCo, hbw, hbits, hcg⟩ := hrel
          by_cases hlt : k < 32
          · have hb1' := bit_test ch k (by have := HS.out; omega)
            by_cases hbit : ch.testBit k = true
            · have E1 : (bits .and .u32 ((ch : Int) / 2 ^ k) 1 == 1) = true := by rw [hb1', hbit]
              have HB := Lib.hid hbit
              clear hb1' hbit
              by_cases hin : a + k < 8 * b.length
              · have hcell := hCo.cell (i := (a + k) / 8) (by omega)
                go_wp2
                go_roundw
                case rel =>
                  refine ⟨k + 1, C.set ((a + k) / 8) (bits .xor .u8 (at_ C ((a + k) / 8)) ((2 ^ ((a + k) % 8) : Nat) : Int)), true, by omega, by go_num, rfl, by simpa using hCl, flip_byte C hCb (a + k) (by omega), ?_, ?_, fun t ht => ?_, ?_⟩
                  · rw [pow_byte]; exact hCo.set (by omega) _
                  · exact hbw.setCell hbg _
                  · rw [bits_flip C hCb (a + k) t (by omega) _ rfl, hbits t ht, turned_next, HB.out, Bool.and_true, Bool.xor_assoc]
                  · exact ⟨fun _ => ⟨a + k, hin, by rw [turned_next, HB.out]; simp [turned]⟩, fun _ => rfl⟩
                case measure => simp [intOf]; omega
              · have hin' : decide ((a : Int) + k < 8 * b.length) = false := by simp; omega
                go_wp2
                go_roundw
                case rel => exact ⟨k + 1, C, cg, by omega, by go_num, rfl, by omega, hCb, hCo, hbw, fun t ht => by rw [hbits t ht, turned_far hin ht], hcg.trans ⟨fun ⟨t, ht, h⟩ => ⟨t, ht, by rw [turned_far hin ht]; exact h⟩, fun ⟨t, ht, h⟩ => ⟨t, ht, by rw [turned_far hin ht] at h; exact h⟩⟩⟩
                case measure => simp [intOf]; omega
            · have E1 : (bits .and .u32 ((ch : Int) / 2 ^ k) 1 == 1) = false := by rw [hb1']; simpa using hbit
              have HN := Lib.hid (turned_no (a := a) hbit)
              clear hb1' hbit
              go_wp2
              go_roundw
              case rel => exact ⟨k + 1, C, cg, by omega, by go_num, rfl, by omega, hCb, hCo, hbw, fun t ht => by rw [hbits t ht, HN.out t], hcg.trans ⟨fun ⟨t, ht, h⟩ => ⟨t, ht, by rw [HN.out t]; exact h⟩, fun ⟨t, ht, h⟩ => ⟨t, ht, by rw [HN.out t] at h; exact h⟩⟩⟩
              case measure => simp [intOf]; omega
          · obtain rfl : k = 32 := by omega
            have hend := burst_end b C hb hCb hCl ch a hbits
            have e1 : ((un (upd 0#32 b) != un (upd 0#32 C)) == cg) = true := by
              have h5 : (un (upd 0#32 b) != un (upd 0#32 C)) = true ↔ cg = true := by
                rw [hcg, ← hend]
                simp only [bne_iff_ne, ne_eq]
                exact ⟨fun h e => h (by rw [e]), fun h e => h (un_inj e)⟩
              rw [beq_iff_eq, Bool.eq_iff_iff]; exact h5
            obtain ⟨A2, c2, hv2, _, _, hsC⟩ := hCo.ints
            injection hv2 with hv2 hv4 hv3
            subst hv2 hv3
            clear hv4
            have hsB := (hs.below hbw).more hbw.size
            have HLC := Lib.hid hCl
            have hsum := sum_any _ cap C wr hsC hCb (by omega)
            rw [hCl] at hsum
            have HSUM := Lib.hid hsum
            clear hbits hcg hend hCl hsum
            go_wp2_with fail
            refine (sum_any _ _ b _ hsB hb hl).mono ?_; rintro e w' ⟨rfl, rfl⟩
            go_wp2_with fail
            refine HSUM.out.mono ?_; rintro e w' ⟨rfl, rfl⟩
            go_wp2_with fail
            refine (awake_any _).mono ?_; rintro e w' ⟨rfl, hw⟩
            go_wp2
            go_ret
            exact ⟨rfl, hbw.trans (hw.mono hbw.size)⟩
    · obtain rfl : b = [] := List.eq_nil_of_length_eq_zero (by omega)
      go_enter Try.func5, Try.ntmps5
      go_wp2_with (first
        | (go_at_call 8; refine (short_any _ _ _ _ (by assumption)).mono ?_; rintro e w' ⟨rfl, rfl⟩)
        | (go_at_call 9; refine (awake_any _).mono ?_; rintro e w' ⟨rfl, hw⟩))
      go_ret
      exact ⟨rfl, hw⟩
  · have h1' : decide (b.length ≤ 600) = false := by simpa using h1
    go_enter Try.func5, Try.ntmps5
    go_wp2_with (first
      | (go_at_call 8; refine (short_any _ _ _ _ (by assumption)).mono ?_; rintro e w' ⟨rfl, rfl⟩)
      | (go_at_call 9; refine (awake_any _).mono ?_; rintro e w' ⟨rfl, hw⟩))
    go_ret
    exact ⟨rfl, hw⟩
end Go.Proofs.Ytgndnamgglihlaa
