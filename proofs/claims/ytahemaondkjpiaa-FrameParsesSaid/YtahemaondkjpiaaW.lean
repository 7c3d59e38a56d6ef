/-
  The functions of layer 1 and of its reference answer what the plain functions on registers say (contracts; a slice of bytes is read as a list).
-/
import Derived.Test.YtahemaondkjpiaaM
import Derived.Test.YtahemaondkjpiaaK
import Derived.LoopTactic
import Derived.Lib.Hide
import Derived.Lib.SlBytesConst
namespace Go.Proofs.Ytahemaondkjpiaa
open Go.ChangeShapes Go.WideShapes Go.RowKit

theorem shift_any (r : BitVec 32) (w : World) : Calls Try.prog 26 #[.int .u32 (un r)] w fun e w' => e = .returned (.int .u32 (un (steps 8 r))) ∧ w = w' := by
  go_enter Try.func26, Try.ntmps26
  go_wp2
  go_loop [0, 4] (fun x i => ∃ k : Nat, k ≤ 8 ∧ i = .int .i64 k ∧ x = .int .u32 (un (steps k r))) (fun _ i => 8 - (intOf i).toNat)
  case atStart => exact ⟨0, by omega, rfl, rfl⟩
  case round =>
    obtain ⟨k, hk, rfl, rfl⟩ := hrel
    by_cases hlt : k < 8
    · have h1 := un_lo (steps k r)

      have e1 := step_yes (steps k r)
      have e2 := step_no (steps k r)
      have H1 := Lib.hid e1
      have H2 := Lib.hid e2
      clear e1 e2
      go_wp2
      all_goals
        go_round
        case rel => exact ⟨k + 1, by omega, by go_num, by first | exact congrArg _ (H1.out (by assumption)) | exact congrArg _ (H2.out (by assumption))⟩
        case measure => simp [intOf]; omega
    · obtain rfl : k = 8 := by omega
      go_wp2
      go_ret
      exact ⟨rfl, rfl⟩

theorem update_any (r : BitVec 32) (A : Option Addr) (c : Nat) (l : List Int) (w : World) (hs : Ints .u8 w w.heap.size A l) (hb : Byte l) (hl : l.length ≤ 9223372036854775807) :
    Calls Try.prog 23 #[.int .u32 (un r), .slice A l.length c] w fun e w' => e = .returned (.int .u32 (un (upd r l))) ∧ w = w' := by
  go_enter Try.func23, Try.ntmps23
  go_wp2
  rw [un_not]
  go_loop [5, 12] (fun x i => ∃ k : Nat, k ≤ l.length ∧ i = .int .i64 k ∧ x = .int .u32 (un (reg (~~~ r) (l.take k)))) (fun _ i => l.length - (intOf i).toNat)
  case atStart => exact ⟨0, by omega, rfl, rfl⟩
  case round =>
    obtain ⟨k, hk, rfl, rfl⟩ := hrel
    by_cases hlt : k < l.length
    · obtain ⟨b, off, rfl, hB, hc⟩ := hs (by omega)
      have hck := hc k hlt
      have hbk := hb _ (at_mem hlt)
      have HX := Lib.hid (un_byte hbk.1 hbk.2)
      have HT := Lib.hid (take_snoc l k hlt)
      clear hc
      go_wp2_with (go_at_call 26; rw [HX.out, un_xor]; refine (shift_any _ _).mono ?_; rintro e w' ⟨rfl, rfl⟩)
      go_round
      case rel => exact ⟨k + 1, by omega, by go_num, by rw [HT.out, reg_snoc]⟩
      case measure => simp [intOf]; omega
    · obtain rfl : k = l.length := by omega
      go_wp2
      go_ret
      exact ⟨by rw [un_not]; rfl, rfl⟩

theorem rupdate_any (r : BitVec 32) (A : Option Addr) (c : Nat) (l : List Int) (w : World) (hs : Ints .u8 w w.heap.size A l) (hb : Byte l) (hl : l.length ≤ 9223372036854775807) :
    Calls Try.prog 24 #[.int .u32 (un r), .slice A l.length c] w fun e w' => e = .returned (.int .u32 (un (upd r l))) ∧ w = w' := by
  go_enter Try.func24, Try.ntmps24
  go_wp2
  rw [un_not]
  go_loop [5, 13] (fun x i => ∃ k : Nat, k ≤ l.length ∧ i = .int .i64 k ∧ x = .int .u32 (un (reg (~~~ r) (l.take k)))) (fun _ i => l.length - (intOf i).toNat)
  case atStart => exact ⟨0, by omega, rfl, rfl⟩
  case round =>
    obtain ⟨k, hk, rfl, rfl⟩ := hrel
    by_cases hlt : k < l.length
    · obtain ⟨b, off, rfl, hB, hc⟩ := hs (by omega)
      have hck := hc k hlt
      have hbk := hb _ (at_mem hlt)
      have HX := Lib.hid (un_byte hbk.1 hbk.2)
      have HT := Lib.hid (take_snoc l k hlt)
      clear hc
      go_wp2
      rw [HX.out, un_xor]
      go_loop [5, 21] (fun x i => ∃ j : Nat, j ≤ 8 ∧ i = .int .i64 j ∧ x = .int .u32 (un (steps j (reg (~~~r) (List.take k l) ^^^ byteOf (at_ l k))))) (fun _ i => 8 - (intOf i).toNat)
      case atStart => exact ⟨0, by omega, rfl, rfl⟩
      case round =>
        obtain ⟨j, hj, rfl, rfl⟩ := hrel
        by_cases hlt8 : j < 8
        · have h1 := un_lo (steps j (reg (~~~r) (List.take k l) ^^^ byteOf (at_ l k)))
          have H1 := Lib.hid (step_yes (steps j (reg (~~~r) (List.take k l) ^^^ byteOf (at_ l k))))
          have H2 := Lib.hid (step_no (steps j (reg (~~~r) (List.take k l) ^^^ byteOf (at_ l k))))
          go_wp2
          all_goals
            go_round
            case rel => exact ⟨j + 1, by omega, by go_num, by first | exact congrArg _ (H1.out (by assumption)) | exact congrArg _ (H2.out (by assumption))⟩
            case measure => simp [intOf]; omega
        · obtain rfl : j = 8 := by omega
          go_wp2
          go_round
          case rel => exact ⟨k + 1, by omega, by go_num, by rw [HT.out, reg_snoc]⟩
          case measure => simp [intOf]; omega
    · obtain rfl : k = l.length := by omega
      go_wp2
      go_ret
      exact ⟨by rw [un_not]; rfl, rfl⟩

theorem sum_any (A : Option Addr) (c : Nat) (l : List Int) (w : World) (hs : Ints .u8 w w.heap.size A l) (hb : Byte l) (hl : l.length ≤ 9223372036854775807) :
    Calls Try.prog 19 #[.slice A l.length c] w fun e w' => e = .returned (.int .u32 (un (upd 0#32 l))) ∧ w = w' := by
  go_enter Try.func19, Try.ntmps19
  go_wp2_with (go_at_call 23; refine (update_any 0#32 A c l _ hs hb hl).mono ?_; rintro e w' ⟨rfl, rfl⟩)
  go_ret
  exact ⟨rfl, rfl⟩
theorem rsum_any (A : Option Addr) (c : Nat) (l : List Int) (w : World) (hs : Ints .u8 w w.heap.size A l) (hb : Byte l) (hl : l.length ≤ 9223372036854775807) :
    Calls Try.prog 20 #[.slice A l.length c] w fun e w' => e = .returned (.int .u32 (un (upd 0#32 l))) ∧ w = w' := by
  go_enter Try.func20, Try.ntmps20
  go_wp2_with (go_at_call 24; refine (rupdate_any 0#32 A c l _ hs hb hl).mono ?_; rintro e w' ⟨rfl, rfl⟩)
  go_ret
  exact ⟨rfl, rfl⟩
theorem short_any (A : Option Addr) (n c : Nat) (w : World) (hn : n ≤ 9223372036854775807) :
    Calls Try.prog 8 #[.slice A n c] w fun e w' => e = .returned (.bool (decide (n ≤ 600))) ∧ w = w' := by
  go_enter Try.func8, Try.ntmps8
  go_wp2
  go_ret
  exact ⟨by simp; try omega, rfl⟩
theorem byte_info : (Try.prog.info? 5).map (fun i => (i.zero, i.size, i.bytes)) = some (some (.int .u8 0), 1, 1) := by kernel_rfl
end Go.Proofs.Ytahemaondkjpiaa
