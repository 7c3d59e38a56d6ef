/-
  The law VarintCodes answers true for all arguments: its walk. Conditions: none.
-/
import Derived.Test.YtepkpogpekflmaaN
import Derived.Test.YtepkpogpekflmaaQ
namespace Go.Proofs.Ytepkpogpekflmaa
open Go.ChangeShapes Go.WideShapes Go.RowKit
set_option linter.unusedVariables false

theorem enc_byte (n : Int) (h0 : 0 ≤ n) : Byte (enc n) := by
  intro x hx
  unfold enc at hx
  (repeat' split at hx) <;> simp only [List.mem_cons, List.not_mem_nil, or_false] at hx <;> omega
theorem awake_any (w : World) : Calls Try.prog 13 #[] w fun e w' => e = .returned (.bool true) ∧ Below w.heap.size w w' := by
  have hl : enc 300 = [172, 2] := by decide
  have h1 := encode_yes 300 (by omega) (by omega) w
  rw [hl] at h1
  have H1 := Lib.hid h1
  have hd : dec [128, 0] = (0, 0, 6) := by decide
  have hsz : sizeI 127 = 1 := by decide
  have HD := Lib.hid hd
  have HS := Lib.hid hsz
  clear h1 hl hd hsz
  have hst : (strOf [172, 2]).toList = [172, 2] := by decide +kernel
  go_enter Try.func13, Try.ntmps13
  go_wp2_with fail
  refine H1.out.mono ?_; rintro e w1 ⟨v, rfl, hown, hb1⟩
  obtain ⟨A, c, rfl, hc0, hc1, hs⟩ := hown.ints
  have hs2 := hs.grow (lat_alloc (Below.refl _ _) (.cells #[.int .u8 128, .int .u8 0] 5))
  have hcv := run_str (P := Try.prog) (w1.alloc (.cells #[.int .u8 128, .int .u8 0] 5)) 25 9 5 A c _ [172, 2] Try.underlying25 Try.underlying5 Try.underlying9 hs2 (by unfold Byte; decide)
  simp only [List.length_cons, List.length_nil] at hcv
  clear hown hs hs2
  have hdc := decode_any (some ⟨w1.heap.size, 0, none⟩) 2 [128, 0] (w1.alloc (.cells #[.int .u8 128, .int .u8 0] 5)) (ints_new (fun i hi => by simp at hi; rcases i with _ | _ | i <;> first | rfl | omega)) (by unfold Byte; decide) (by decide)
  rw [HD.out] at hdc
  have HDC := Lib.hid hdc
  clear hdc
  go_wp2_with (first
    | (go_at_call 16; refine HDC.out.mono ?_; rintro e w' ⟨rfl, rfl⟩; unfold trip)
    | (go_at_call 11; refine (size_any _ _).mono ?_; rw [HS.out]; rintro e w' ⟨rfl, rfl⟩))
  all_goals go_ret
  exact ⟨rfl, hb1.trans (lat_alloc (Below.refl _ _) _ |>.mono hb1.size)⟩

theorem codes_any (n : Int) (w : World) (ha : -9223372036854775808 ≤ n) (hb : n ≤ 9223372036854775807) :
    Calls Try.prog 3 #[.int .i64 n] w fun e w' => e = .returned (.bool true) ∧ Below w.heap.size w w' := by
  have hm := modI_bd n 4294967296 (by decide)
  have hn := near_bd n
  go_enter Try.func3, Try.ntmps3
  go_wp2_with (first
    | (go_at_call 7; refine (near_any n ha hb _).mono ?_; rintro e w1 ⟨rfl, hb1⟩)
    | (go_at_call 8; refine (mod_any n 4294967296 (by omega) (by omega) ha hb _).mono ?_; rintro e w' ⟨rfl, rfl⟩))
  have hks : Ints .i64 (w1.alloc (.cells #[.int .i64 n, .int .i64 (nearI n), .int .i64 (modI n 4294967296)] 3)) (w1.alloc (.cells #[.int .i64 n, .int .i64 (nearI n), .int .i64 (modI n 4294967296)] 3)).heap.size (some ⟨w1.heap.size, 0, none⟩) [n, nearI n, modI n 4294967296] :=
    ints_new (fun i hi => by simp at hi; rcases i with _ | _ | _ | i <;> first | rfl | omega)
  have hb2 : Below w.heap.size w (w1.alloc (.cells #[.int .i64 n, .int .i64 (nearI n), .int .i64 (modI n 4294967296)] 3)) := hb1.alloc hb1.size _
  generalize (w1.alloc (.cells #[.int .i64 n, .int .i64 (nearI n), .int .i64 (modI n 4294967296)] 3)) = W at *
  generalize w1.heap.size = g at *
  go_loopw [16] (fun i wr => ∃ k : Nat, k ≤ 3 ∧ i = .int .i64 k ∧ Below W.heap.size W wr) (fun i _ => 3 - (intOf i).toNat)
  case atStart => exact ⟨0, by omega, rfl, Below.refl _ _⟩
  case round =>
    obtain ⟨k, hk, rfl, hbw⟩ := hrel
    by_cases hlt : k < 3
    · obtain ⟨b, off, hA, hB, hc⟩ := hks (by simp)
      injection hA with hA
      injection hA with hA1 hA2 _
      subst hA1 hA2
      have hck := (hbw.cell (p := ⟨g, 0 + k, none⟩) hB).trans (hc k (by simpa using hlt))
      rw [Nat.zero_add] at hck
      generalize hx : at_ [n, nearI n, modI n 4294967296] k = x at hck
      clear hc hks hx
      by_cases hr : 0 ≤ x ∧ x ≤ 4294967295
      · go_wp2_with fail
        refine (encode_yes x hr.1 hr.2 _).mono ?_; rintro e w2 ⟨v2, rfl, hown2, hb3⟩
        obtain ⟨A2, c2, rfl, _, _, hs2⟩ := hown2.ints
        go_wp2_with fail
        refine (rencode_yes x hr.1 hr.2 _).mono ?_; rintro e w3 ⟨v3, rfl, hown3, hb4⟩
        obtain ⟨A3, c3, rfl, _, _, hs3⟩ := hown3.ints
        have hcv2 := run_str (P := Try.prog) w3 25 9 5 A2 c2 _ (enc x) Try.underlying25 Try.underlying5 Try.underlying9 (hs2.grow hb4) (enc_byte x hr.1)
        have hcv3 := run_str (P := Try.prog) w3 25 9 5 A3 c3 _ (enc x) Try.underlying25 Try.underlying5 Try.underlying9 hs3 (enc_byte x hr.1)
        have hb5 : Below W.heap.size W w3 := (hbw.trans (hb3.mono hbw.size)).trans (hb4.mono (Nat.le_trans hbw.size hb3.size))
        clear hown2 hown3 hs2 hs3 hb3 hb4
        go_wp2_with (first
          | (go_at_call 11; refine (size_any _ _).mono ?_; rintro e w' ⟨rfl, rfl⟩)
          | (go_at_call 12; refine (rsize_any _ _).mono ?_; rintro e w' ⟨rfl, rfl⟩))
        go_roundw
        case rel => exact ⟨k + 1, by omega, by go_num, hb5⟩
        case measure => simp [intOf]; omega
      · go_wp2_with fail
        refine (encode_no x (by omega) _).mono ?_; rintro e w2 ⟨rfl, rfl⟩
        go_wp2_with fail
        refine (rencode_no x (by omega) _).mono ?_; rintro e w3 ⟨rfl, rfl⟩
        have hcv2 := run_str (P := Try.prog) wr 25 9 5 none 0 0 [] Try.underlying25 Try.underlying5 Try.underlying9 Ints.nil_ (by unfold Byte; simp)
        rw [List.length_nil] at hcv2
        go_wp2_with (first
          | (go_at_call 11; refine (size_any _ _).mono ?_; rintro e w' ⟨rfl, rfl⟩)
          | (go_at_call 12; refine (rsize_any _ _).mono ?_; rintro e w' ⟨rfl, rfl⟩))
        go_roundw
        case rel => exact ⟨k + 1, by omega, by go_num, hbw⟩
        case measure => simp [intOf]; omega
    · obtain rfl : k = 3 := by omega
      go_wp2_with (go_at_call 13; refine (awake_any _).mono ?_; rintro e w' ⟨rfl, hw⟩)
      go_ret
      exact ⟨rfl, (hb2.trans (hbw.mono hb2.size)).trans (hw.mono (Nat.le_trans hb2.size hbw.size))⟩
end Go.Proofs.Ytepkpogpekflmaa
