/-
  Encode of layer 2 and of its reference make the code of a number: a new row of bytes.
-/
import Derived.Test.YtepkpogpekflmaaV
namespace Go.Proofs.Ytepkpogpekflmaa
open Go.ChangeShapes Go.WideShapes Go.RowKit
set_option linter.unusedVariables false

def enc (n : Int) : List Int :=
  if n < 128 then [n % 128] else if n < 16384 then [n % 128 + 128, n / 128 % 128] else if n < 2097152 then [n % 128 + 128, n / 128 % 128 + 128, n / 128 / 128 % 128]
  else if n < 268435456 then [n % 128 + 128, n / 128 % 128 + 128, n / 128 / 128 % 128 + 128, n / 128 / 128 / 128 % 128]
  else [n % 128 + 128, n / 128 % 128 + 128, n / 128 / 128 % 128 + 128, n / 128 / 128 / 128 % 128 + 128, n / 128 / 128 / 128 / 128 % 128]
theorem make1 (w : World) : (Instr.makeSlice 25 (.int .i64 1) (.int .i64 1)).run Try.prog w = .ok (.slice (some ⟨w.heap.size, 0, none⟩) 1 1) (w.alloc (.cells #[.int .u8 0] 5)) := by kernel_rfl
theorem make2 (w : World) : (Instr.makeSlice 25 (.int .i64 2) (.int .i64 2)).run Try.prog w = .ok (.slice (some ⟨w.heap.size, 0, none⟩) 2 2) (w.alloc (.cells #[.int .u8 0, .int .u8 0] 5)) := by kernel_rfl
theorem make3 (w : World) : (Instr.makeSlice 25 (.int .i64 3) (.int .i64 3)).run Try.prog w = .ok (.slice (some ⟨w.heap.size, 0, none⟩) 3 3) (w.alloc (.cells #[.int .u8 0, .int .u8 0, .int .u8 0] 5)) := by kernel_rfl
theorem make4 (w : World) : (Instr.makeSlice 25 (.int .i64 4) (.int .i64 4)).run Try.prog w = .ok (.slice (some ⟨w.heap.size, 0, none⟩) 4 4) (w.alloc (.cells #[.int .u8 0, .int .u8 0, .int .u8 0, .int .u8 0] 5)) := by kernel_rfl
theorem make5 (w : World) : (Instr.makeSlice 25 (.int .i64 5) (.int .i64 5)).run Try.prog w = .ok (.slice (some ⟨w.heap.size, 0, none⟩) 5 5) (w.alloc (.cells #[.int .u8 0, .int .u8 0, .int .u8 0, .int .u8 0, .int .u8 0] 5)) := by kernel_rfl
theorem byte_info : (Try.prog.info? 5).map (fun i => (i.zero, i.size, i.bytes)) = some (some (.int .u8 0), 1, 1) := by kernel_rfl
theorem encode_yes (n : Int) (h0 : 0 ≤ n) (h1 : n ≤ 4294967295) (w : World) : Calls Try.prog 9 #[.int .i64 n] w fun e w' => ∃ v, e = .returned (.tuple #[v, .int .i64 0]) ∧ Own .u8 5 w' w.heap.size v (enc n) ∧ Below w.heap.size w w' := by
  rcases size_cases h0 h1 with ⟨c2, hE⟩ | ⟨c1, c2, hE⟩ | ⟨c1, c2, hE⟩ | ⟨c1, c2, hE⟩ | ⟨c1, hE⟩
  · have E := Lib.hid hE
    have L := Lib.hid (show enc n = [n % 128] by unfold enc; rw [if_pos (by omega)])
    clear hE
    have hmk := make1
    go_enter Try.func9, Try.ntmps9
    go_wp2_with (go_at_call 11; refine (size_any _ _).mono ?_; rw [E.out]; rintro e w' ⟨rfl, rfl⟩)
    refine wp_loop_rounds 7 ?_
    rw [rounds_succ]
    go_wp2
    rw [rounds_succ]
    go_wp2
    go_ret2
    rw [L.out]
    exact ⟨_, rfl, own_new _ [n % 128] rfl (Nat.le_refl _) (by simp), lat_alloc (Below.refl _ _) _⟩
  · have E := Lib.hid hE
    have L := Lib.hid (show enc n = [n % 128 + 128, n / 128 % 128] by unfold enc; rw [if_neg (by omega), if_pos (by omega)])
    clear hE
    have hmk := make2
    go_enter Try.func9, Try.ntmps9
    go_wp2_with (go_at_call 11; refine (size_any _ _).mono ?_; rw [E.out]; rintro e w' ⟨rfl, rfl⟩)
    refine wp_loop_rounds 7 ?_
    rw [rounds_succ]
    go_wp2
    rw [rounds_succ]
    go_wp2
    rw [rounds_succ]
    go_wp2
    go_ret2
    rw [L.out]
    exact ⟨_, rfl, own_new _ [n % 128 + 128, n / 128 % 128] rfl (Nat.le_refl _) (by simp), lat_alloc (Below.refl _ _) _⟩
  · have E := Lib.hid hE
    have L := Lib.hid (show enc n = [n % 128 + 128, n / 128 % 128 + 128, n / 128 / 128 % 128] by unfold enc; rw [if_neg (by omega), if_neg (by omega), if_pos (by omega)])
    clear hE
    have hmk := make3
    go_enter Try.func9, Try.ntmps9
    go_wp2_with (go_at_call 11; refine (size_any _ _).mono ?_; rw [E.out]; rintro e w' ⟨rfl, rfl⟩)
    refine wp_loop_rounds 7 ?_
    rw [rounds_succ]
    go_wp2
    rw [rounds_succ]
    go_wp2
    rw [rounds_succ]
    go_wp2
    rw [rounds_succ]
    go_wp2
    go_ret2
    rw [L.out]
    exact ⟨_, rfl, own_new _ [n % 128 + 128, n / 128 % 128 + 128, n / 128 / 128 % 128] rfl (Nat.le_refl _) (by simp), lat_alloc (Below.refl _ _) _⟩
  · have E := Lib.hid hE
    have L := Lib.hid (show enc n = [n % 128 + 128, n / 128 % 128 + 128, n / 128 / 128 % 128 + 128, n / 128 / 128 / 128 % 128] by unfold enc; rw [if_neg (by omega), if_neg (by omega), if_neg (by omega), if_pos (by omega)])
    clear hE
    have hmk := make4
    go_enter Try.func9, Try.ntmps9
    go_wp2_with (go_at_call 11; refine (size_any _ _).mono ?_; rw [E.out]; rintro e w' ⟨rfl, rfl⟩)
    refine wp_loop_rounds 7 ?_
    rw [rounds_succ]
    go_wp2
    rw [rounds_succ]
    go_wp2
    rw [rounds_succ]
    go_wp2
    rw [rounds_succ]
    go_wp2
    rw [rounds_succ]
    go_wp2
    go_ret2
    rw [L.out]
    exact ⟨_, rfl, own_new _ [n % 128 + 128, n / 128 % 128 + 128, n / 128 / 128 % 128 + 128, n / 128 / 128 / 128 % 128] rfl (Nat.le_refl _) (by simp), lat_alloc (Below.refl _ _) _⟩
  · have E := Lib.hid hE
    have L := Lib.hid (show enc n = [n % 128 + 128, n / 128 % 128 + 128, n / 128 / 128 % 128 + 128, n / 128 / 128 / 128 % 128 + 128, n / 128 / 128 / 128 / 128 % 128] by unfold enc; rw [if_neg (by omega), if_neg (by omega), if_neg (by omega), if_neg (by omega)])
    clear hE
    have hmk := make5
    go_enter Try.func9, Try.ntmps9
    go_wp2_with (go_at_call 11; refine (size_any _ _).mono ?_; rw [E.out]; rintro e w' ⟨rfl, rfl⟩)
    refine wp_loop_rounds 7 ?_
    rw [rounds_succ]
    go_wp2
    rw [rounds_succ]
    go_wp2
    rw [rounds_succ]
    go_wp2
    rw [rounds_succ]
    go_wp2
    rw [rounds_succ]
    go_wp2
    rw [rounds_succ]
    go_wp2
    go_ret2
    rw [L.out]
    exact ⟨_, rfl, own_new _ [n % 128 + 128, n / 128 % 128 + 128, n / 128 / 128 % 128 + 128, n / 128 / 128 / 128 % 128 + 128, n / 128 / 128 / 128 / 128 % 128] rfl (Nat.le_refl _) (by simp), lat_alloc (Below.refl _ _) _⟩
theorem encode_no (n : Int) (h : n < 0 ∨ 4294967295 < n) (w : World) : Calls Try.prog 9 #[.int .i64 n] w fun e w' => e = .returned (.tuple #[.slice none 0 0, .int .i64 8]) ∧ w = w' := by
  have E := Lib.hid (show sizeI n = 0 by unfold sizeI; split; rfl; rw [if_pos (by omega)])
  clear h
  go_enter Try.func9, Try.ntmps9
  go_wp2_with (go_at_call 11; refine (size_any _ _).mono ?_; rw [E.out]; rintro e w' ⟨rfl, rfl⟩)
  go_ret2
  exact ⟨rfl, rfl⟩
theorem rencode_no (n : Int) (h : n < 0 ∨ 4294967295 < n) (w : World) : Calls Try.prog 10 #[.int .i64 n] w fun e w' => e = .returned (.tuple #[.slice none 0 0, .int .i64 8]) ∧ w = w' := by
  have E := Lib.hid (show sizeI n = 0 by unfold sizeI; split; rfl; rw [if_pos (by omega)])
  clear h
  go_enter Try.func10, Try.ntmps10
  go_wp2_with (go_at_call 12; refine (rsize_any _ _).mono ?_; rw [E.out]; rintro e w' ⟨rfl, rfl⟩)
  go_ret2
  exact ⟨rfl, rfl⟩
theorem enc_len (n : Int) : (enc n).length ≤ 5 := by
  unfold enc; repeat' split
  all_goals simp
/-- The code of n, made of the bytes that stand and the code of what is left. -/
theorem enc_step (n : Int) (h : 128 ≤ n) (h1 : n ≤ 4294967295) : enc n = (n % 128 + 128) :: enc (n / 128) := by
  rcases size_cases (by omega) h1 with ⟨c2, _⟩ | ⟨c1, c2, _⟩ | ⟨c1, c2, _⟩ | ⟨c1, c2, _⟩ | ⟨c1, _⟩
  · omega
  all_goals
    unfold enc
    repeat' (first | rw [if_neg (by omega)] | rw [if_pos (by omega)])
theorem ones (k : IntKind) (w : World) (p : Int) (T : TypeId) : Ints k (w.alloc (.cells #[.int k p] T)) (w.alloc (.cells #[.int k p] T)).heap.size (some ⟨w.heap.size, 0, none⟩) [p] :=
  ints_new (fun i hi => by simp at hi; subst hi; rfl)
theorem rencode_yes (n : Int) (h0 : 0 ≤ n) (h1 : n ≤ 4294967295) (w : World) : Calls Try.prog 10 #[.int .i64 n] w fun e w' => ∃ v, e = .returned (.tuple #[v, .int .i64 0]) ∧ Own .u8 5 w' w.heap.size v (enc n) ∧ Below w.heap.size w w' := by
  have hE : (sizeI n == 0) = false := by rcases size_cases h0 h1 with ⟨_, h⟩ | ⟨_, _, h⟩ | ⟨_, _, h⟩ | ⟨_, _, h⟩ | ⟨_, h⟩ <;> rw [h] <;> rfl
  go_enter Try.func10, Try.ntmps10
  go_wp2_with (go_at_call 12; refine (rsize_any _ _).mono ?_; rintro e w' ⟨rfl, rfl⟩)
  go_loopw [0, 4] (fun x v wr => ∃ (m : Int) (l : List Int), 0 ≤ m ∧ m ≤ 4294967295 ∧ m ≤ n ∧ x = .int .i64 m ∧ enc n = l ++ enc m ∧ l.length ≤ 10 ∧ Own .u8 5 wr w.heap.size v l ∧ Below w.heap.size w wr) (fun x _ _ => (intOf x).toNat)
  case atStart => exact ⟨n, [], h0, h1, by omega, rfl, rfl, by simp, Own.nil_ _ _ _ _, Below.refl _ _⟩
  case round =>
    obtain ⟨m, l, m0, m1, mn, rfl, hl, hlen, hown, hbw⟩ := hrel
    have HL := Lib.hid hl
    clear hl
    by_cases hm : 128 ≤ m
    · go_wp2_with (at_builtin; refine wpList_append_ints rfl (.tmp 10) (.tmp 15) _ rfl w.heap.size 5 .u8 1 Try.underlying25 byte_info _ l rfl (hown.alloc _) _ 1 [_] 1 rfl rfl (ones _ _ _ _) (by simp; omega) (by omega) (by rw [heap_size]; have := hbw.size; omega) ?_; intro v1 w1 hown1 hg1 hat1; have hb1 : Below w.heap.size w w1 := (hbw.alloc hbw.size _).grown hg1 (hbw.alloc hbw.size _).size (fun k hk => (hown.lt hk).1); clear hg1 hat1)
      go_roundw
      case rel =>
        have he := enc_step m hm m1
        have hl := HL.out
        rw [he] at hl
        have e : l ++ (m % 128 + 128) :: enc (m / 128) = (l ++ [m % 128 + 128]) ++ enc (m / 128) := by simp
        rw [e] at hl
        have hlen2 : (l ++ [m % 128 + 128]).length ≤ 10 := by
          have h5 := enc_len n
          rw [hl, List.length_append] at h5
          omega
        exact ⟨m / 128, l ++ [m % 128 + 128], by omega, by omega, by omega, rfl, hl, hlen2, hown1, hb1⟩
      case measure => simp [intOf]; omega
    · have L := Lib.hid (show enc m = [m % 128] by unfold enc; rw [if_pos (by omega)])
      go_wp2_with (at_builtin; refine wpList_append_ints rfl (.tmp 19) (.tmp 22) _ rfl w.heap.size 5 .u8 1 Try.underlying25 byte_info _ l rfl (hown.alloc _) _ 1 [_] 1 rfl rfl (ones _ _ _ _) (by simp; omega) (by omega) (by rw [heap_size]; have := hbw.size; omega) ?_; intro v1 w1 hown1 hg1 hat1; have hb1 : Below w.heap.size w w1 := (hbw.alloc hbw.size _).grown hg1 (hbw.alloc hbw.size _).size (fun k hk => (hown.lt hk).1); clear hg1 hat1)
      go_ret2
      rw [HL.out, L.out]
      refine ⟨_, rfl, ?_, hb1⟩
      rw [show m % 128 = m by omega]
      exact hown1
end Go.Proofs.Ytepkpogpekflmaa
