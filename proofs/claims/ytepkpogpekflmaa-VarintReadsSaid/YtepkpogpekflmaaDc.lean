/-
  Decode of layer 2 and of its reference answer what the plain function on lists of bytes says.
-/
import Derived.Test.YtepkpogpekflmaaV
namespace Go.Proofs.Ytepkpogpekflmaa
open Go.ChangeShapes Go.WideShapes Go.RowKit
set_option linter.unusedVariables false

/-- What is read from the k-th byte on, where n was read before; at most f bytes. -/
def decF (l : List Int) : Nat → Nat → Int → Int × Int × Int
  | 0, _, _ => (0, 0, 6)
  | f + 1, k, n =>
    if k < l.length then
      if 128 ≤ at_ l k then decF l f (k + 1) (n + at_ l k % 128 * 128 ^ k)
      else if sizeI (n + at_ l k % 128 * 128 ^ k) = k + 1 then (n + at_ l k % 128 * 128 ^ k, k + 1, 0) else (0, 0, 6)
    else (0, 0, 6)
def dec (l : List Int) : Int × Int × Int := decF l 5 0 0
def trip (x : Int × Int × Int) : Value := .tuple #[.int .i64 x.1, .int .i64 x.2.1, .int .i64 x.2.2]

theorem grow {k : Nat} {n x : Int} (hk : k < 5) (h0 : 0 ≤ n) (h1 : n < 128 ^ k) (x0 : 0 ≤ x) (x1 : x ≤ 255) :
    wrap64 (n + wrap64 (x % 128 * 2 ^ (7 * k))) = n + x % 128 * 128 ^ k ∧ 0 ≤ n + x % 128 * 128 ^ k ∧ n + x % 128 * 128 ^ k < 128 ^ (k + 1) := by
  have key : ∀ p q : Int, 2 ^ (7 * k) = p → (128 : Int) ^ k = p → (128 : Int) ^ (k + 1) = 128 * p → 1 ≤ p → p ≤ 268435456 → wrap64 (n + wrap64 (x % 128 * 2 ^ (7 * k))) = n + x % 128 * 128 ^ k ∧ 0 ≤ n + x % 128 * 128 ^ k ∧ n + x % 128 * 128 ^ k < 128 ^ (k + 1) := by
    intro p _ e1 e2 e3 p1 p2
    rw [e2] at h1
    rw [e1, e2, e3]
    have hx : 0 ≤ x % 128 ∧ x % 128 ≤ 127 := by omega
    have m0 : 0 ≤ x % 128 * p := Int.mul_nonneg hx.1 (by omega)
    have m1 : x % 128 * p ≤ 127 * p := Int.mul_le_mul_of_nonneg_right hx.2 (by omega)
    generalize x % 128 * p = y at *
    rw [IntWalk.wrap64_in y ⟨by omega, by omega⟩, IntWalk.wrap64_in (n + y) ⟨by omega, by omega⟩]
    exact ⟨rfl, by omega, by omega⟩
  rcases k with _ | _ | _ | _ | _ | k
  · exact key 1 0 (by decide) (by decide) (by decide) (by decide) (by decide)
  · exact key 128 0 (by decide) (by decide) (by decide) (by decide) (by decide)
  · exact key 16384 0 (by decide) (by decide) (by decide) (by decide) (by decide)
  · exact key 2097152 0 (by decide) (by decide) (by decide) (by decide) (by decide)
  · exact key 268435456 0 (by decide) (by decide) (by decide) (by decide) (by decide)
  · omega
theorem decode_any (A : Option Addr) (c : Nat) (l : List Int) (w : World) (hs : Ints .u8 w w.heap.size A l) (hb : Byte l) (hl : l.length ≤ 9223372036854775807) :
    Calls Try.prog 16 #[.slice A l.length c] w fun e w' => e = .returned (trip (dec l)) ∧ w = w' := by
  have hE := Lib.hid (show sizeI 4294967295 = 5 by decide)
  go_enter Try.func16, Try.ntmps16
  go_wp2_with (go_at_call 11; refine (size_any _ _).mono ?_; rw [hE.out]; rintro e w' ⟨rfl, rfl⟩)
  all_goals
    go_loop [5, 11] (fun x i => ∃ (k : Nat) (n : Int), k ≤ 5 ∧ i = .int .i64 k ∧ x = .int .i64 n ∧ 0 ≤ n ∧ n < 128 ^ k ∧ dec l = decF l (5 - k) k n) (fun _ i => 5 - (intOf i).toNat)
    case atStart => exact ⟨0, 0, by omega, rfl, rfl, by omega, by decide, rfl⟩
    case round =>
      obtain ⟨k, n, hk, rfl, rfl, hn0, hn1, hdec⟩ := hrel
      have HD := Lib.hid hdec
      have HN := Lib.hid hn1
      clear hdec hn1
      by_cases hlt : k < 5 ∧ k < l.length
      · obtain ⟨hlt5, hltl⟩ := hlt
        obtain ⟨b, off, rfl, hB, hc⟩ := hs (by omega)
        have hck := hc k hltl
        have hbk := hb _ (at_mem hltl)
        clear hc hs
        have hg := grow hlt5 hn0 HN.out hbk.1 hbk.2
        generalize hm : n + at_ l k % 128 * 128 ^ k = m at hg
        have HG := Lib.hid hg.1
        have HM := Lib.hid hm
        have HL := Lib.hid hg.2.2
        have hm0 := hg.2.1
        clear hg hm
        have HF := Lib.hid (show 5 - k = (5 - (k + 1)) + 1 by omega)
        by_cases h128 : 128 ≤ at_ l k
        · go_wp2
          go_round
          case rel => exact ⟨k + 1, m, by omega, by go_num, congrArg _ HG.out, hm0, HL.out, by rw [HD.out, HF.out, decF, if_pos hltl, if_pos h128, HM.out]⟩
          case measure => simp [intOf]; omega
        · by_cases hsz : sizeI m = k + 1
          · have HS := Lib.hid (show dec l = (m, (k : Int) + 1, 0) by rw [HD.out, HF.out, decF, if_pos hltl, if_neg h128, HM.out, if_pos hsz])
            have hsz' : (sizeI m == (k : Int) + 1) = true := by rw [hsz]; simp
            go_wp2_with (go_at_call 11; rw [HG.out]; refine (size_any _ _).mono ?_; rintro e w' ⟨rfl, rfl⟩)
            go_ret3
            rw [HS.out]
            exact ⟨rfl, rfl⟩
          · have HS := Lib.hid (show dec l = (0, 0, 6) by rw [HD.out, HF.out, decF, if_pos hltl, if_neg h128, HM.out, if_neg hsz])
            have hsz' : (sizeI m == (k : Int) + 1) = false := by simpa using hsz
            go_wp2_with (go_at_call 11; rw [HG.out]; refine (size_any _ _).mono ?_; rintro e w' ⟨rfl, rfl⟩)
            go_ret3
            rw [HS.out]
            exact ⟨rfl, rfl⟩
      · have HS := Lib.hid (show dec l = (0, 0, 6) by
          rw [HD.out]
          by_cases h5 : k = 5
          · subst h5; rfl
          · rw [show 5 - k = (4 - k) + 1 by omega, decF, if_neg (by omega)])
        go_wp2
        go_ret3
        rw [HS.out]
        exact ⟨rfl, rfl⟩

theorem place {k : Nat} {n x : Int} (hk : k < 5) (h0 : 0 ≤ n) (h1 : n < 128 ^ k) (x0 : 0 ≤ x) (x1 : x ≤ 255) :
    wrap64 (n + wrap64 (x % 128 * 128 ^ k)) = n + x % 128 * 128 ^ k ∧ wrap64 ((128 : Int) ^ k * 128) = 128 ^ (k + 1) := by
  have hg := grow hk h0 h1 x0 x1
  rcases k with _ | _ | _ | _ | _ | k
  · exact ⟨hg.1, by decide +kernel⟩
  · exact ⟨hg.1, by decide +kernel⟩
  · exact ⟨hg.1, by decide +kernel⟩
  · exact ⟨hg.1, by decide +kernel⟩
  · exact ⟨hg.1, by decide +kernel⟩
  · omega
theorem rdecode_any (A : Option Addr) (c : Nat) (l : List Int) (w : World) (hs : Ints .u8 w w.heap.size A l) (hb : Byte l) (hl : l.length ≤ 9223372036854775807) :
    Calls Try.prog 17 #[.slice A l.length c] w fun e w' => e = .returned (trip (dec l)) ∧ w = w' := by
  go_enter Try.func17, Try.ntmps17
  go_wp2
  go_loop [5, 6, 7] (fun x p i => ∃ (k : Nat) (n : Int), k ≤ 5 ∧ i = .int .i64 k ∧ p = .int .i64 (128 ^ k) ∧ x = .int .i64 n ∧ 0 ≤ n ∧ n < 128 ^ k ∧ dec l = decF l (5 - k) k n) (fun _ _ i => 5 - (intOf i).toNat)
  case atStart => exact ⟨0, 0, by omega, rfl, rfl, rfl, by omega, by decide, rfl⟩
  case round =>
    obtain ⟨k, n, hk, rfl, rfl, rfl, hn0, hn1, hdec⟩ := hrel
    have HD := Lib.hid hdec
    have HN := Lib.hid hn1
    clear hdec hn1
    by_cases hlt : k < 5 ∧ k < l.length
    · obtain ⟨hlt5, hltl⟩ := hlt
      obtain ⟨b, off, rfl, hB, hc⟩ := hs (by omega)
      have hck := hc k hltl
      have hbk := hb _ (at_mem hltl)
      clear hc hs
      have hg := grow hlt5 hn0 HN.out hbk.1 hbk.2
      have hp := place hlt5 hn0 HN.out hbk.1 hbk.2
      generalize hm : n + at_ l k % 128 * 128 ^ k = m at hg hp
      have HG := Lib.hid hp.1
      have HP := Lib.hid hp.2
      have HM := Lib.hid hm
      have HL := Lib.hid hg.2.2
      have hm0 := hg.2.1
      clear hg hm hp
      have HF := Lib.hid (show 5 - k = (5 - (k + 1)) + 1 by omega)
      by_cases h128 : 128 ≤ at_ l k
      · go_wp2
        go_round
        case rel => exact ⟨k + 1, m, by omega, by go_num, congrArg _ HP.out, congrArg _ HG.out, hm0, HL.out, by rw [HD.out, HF.out, decF, if_pos hltl, if_pos h128, HM.out]⟩
        case measure => simp [intOf]; omega
      · by_cases hsz : sizeI m = k + 1
        · have HS := Lib.hid (show dec l = (m, (k : Int) + 1, 0) by rw [HD.out, HF.out, decF, if_pos hltl, if_neg h128, HM.out, if_pos hsz])
          have hsz' : (sizeI m == (k : Int) + 1) = true := by rw [hsz]; simp
          go_wp2_with (go_at_call 12; rw [HG.out]; refine (rsize_any _ _).mono ?_; rintro e w' ⟨rfl, rfl⟩)
          go_ret3
          rw [HS.out]
          exact ⟨rfl, rfl⟩
        · have HS := Lib.hid (show dec l = (0, 0, 6) by rw [HD.out, HF.out, decF, if_pos hltl, if_neg h128, HM.out, if_neg hsz])
          have hsz' : (sizeI m == (k : Int) + 1) = false := by simpa using hsz
          go_wp2_with (go_at_call 12; rw [HG.out]; refine (rsize_any _ _).mono ?_; rintro e w' ⟨rfl, rfl⟩)
          go_ret3
          rw [HS.out]
          exact ⟨rfl, rfl⟩
    · have HS := Lib.hid (show dec l = (0, 0, 6) by
        rw [HD.out]
        by_cases h5 : k = 5
        · subst h5; rfl
        · rw [show 5 - k = (4 - k) + 1 by omega, decF, if_neg (by omega)])
      by_cases hl5 : k < l.length
      · obtain rfl : k = 5 := by omega
        go_wp2
        go_ret3
        rw [HS.out]
        exact ⟨rfl, rfl⟩
      · have hd : decide ((k : Int) < l.length) = false := by simp; omega
        go_wp2
        go_ret3
        rw [HS.out]
        exact ⟨rfl, rfl⟩
end Go.Proofs.Ytepkpogpekflmaa
