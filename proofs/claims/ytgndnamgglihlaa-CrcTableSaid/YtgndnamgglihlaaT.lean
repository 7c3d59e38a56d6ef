/-
  The law CrcTable answers true for all arguments: its walk. Conditions: none.
-/
import Derived.Test.YtgndnamgglihlaaW
import Derived.Test.YtgndnamgglihlaaJ
namespace Go.Proofs.Ytgndnamgglihlaa
open Go.ChangeShapes Go.WideShapes Go.RowKit
set_option linter.unusedVariables false

theorem un_low' {r : BitVec 32} {x : Int} (h : 0 ≤ x ∧ x ≤ 255) : bits .xor .u8 (bits .xor .u32 IntKind.u32.max (un r) % 256) x % 4294967296 = un ((~~~ r &&& 255#32) ^^^ byteOf x) := by
  rw [un_not, un_low _ _ h.1 h.2]
theorem table_any (sum : Int) (c : Int) (A : Option Addr) (cp : Nat) (b : List Int) (w : World)
    (s0 : 0 ≤ sum) (s1 : sum ≤ 4294967295) (c0 : 0 ≤ c) (c1 : c ≤ 255)
    (hs : Ints .u8 w w.heap.size A b) (hb : Byte b) (hl : b.length ≤ 9223372036854775807) :
    Calls Try.prog 7 #[.int .u32 sum, .int .u8 c, .slice A b.length cp] w fun e w' => e = .returned (.bool true) ∧ Below w.heap.size w w' := by
  obtain ⟨v, rfl⟩ := un_of s0 s1
  clear s0 s1
  by_cases h1 : b.length ≤ 600
  · go_enter Try.func7, Try.ntmps7
    go_wp2_with fail
    refine (short_any _ _ _ _ hl).mono ?_; rintro e w' ⟨rfl, rfl⟩
    have hown0 : Own .u8 5 (w.alloc (.cells #[.int .u8 c] 5)) w.heap.size (.slice (some ⟨w.heap.size, 0, none⟩) 1 1) [c] := own_new #[.int .u8 c] [c] rfl (Nat.le_refl _) (by simp)
    have hb0 : Below w.heap.size w (w.alloc (.cells #[.int .u8 c] 5)) := lat_alloc (Below.refl _ _) _
    have hby : Byte (c :: b) := fun n hn => by
      rcases List.mem_cons.1 hn with rfl | h
      · exact ⟨c0, c1⟩
      · exact hb n h
    go_wp2_with (at_builtin; refine wpList_append_ints rfl (.tmp 18) (.tmp 19) _ rfl w.heap.size 5 .u8 1 Try.underlying22 byte_info (.slice (some ⟨w.heap.size, 0, none⟩) 1 1) [c] rfl hown0 A cp b b.length rfl rfl (hs.grow hb0) (by simp; omega) (by omega) hb0.size ?_; intro v1 w1 hown1 hg1 hat1; rw [List.singleton_append] at hown1; have hb1 : Below w.heap.size w w1 := hb0.grown hg1 hb0.size (fun k hk => (hown0.lt hk).1); obtain ⟨A1, cp1, rfl, hc1, hm1, hs1⟩ := hown1.ints; clear hat1 hg1 hown0)
    go_loop [7, 22] (fun x i => ∃ k : Nat, k ≤ b.length + 1 ∧ i = .int .i64 k ∧ x = .int .u32 (un (upd v ((c :: b).take k)))) (fun _ i => b.length + 1 - (intOf i).toNat)
    case atStart => exact ⟨0, by omega, rfl, by rw [List.take_zero, upd_nil]⟩
    case round =>
      obtain ⟨k, hk, rfl, rfl⟩ := hrel
      by_cases hlt : k < b.length + 1
      · obtain ⟨bb, off, rfl, hB, hc⟩ := hs1 (by simp)
        have hck := hc k (by simpa using hlt)
        have hbk := hby _ (at_mem (l := c :: b) (i := k) (by simpa using hlt))
        clear hc
        go_wp2
        rw [un_low' hbk]
        generalize hx : (~~~upd v (List.take k (c :: b)) &&& 255#32 ^^^ byteOf (at_ (c :: b) k)) = x0
        have HX0 := Lib.hid hx
        clear hx
        go_loop [11, 33] (fun x i => ∃ j : Nat, j ≤ 8 ∧ i = .int .i64 j ∧ x = .int .u32 (un (steps j x0))) (fun _ i => 8 - (intOf i).toNat)
        case atStart => exact ⟨0, by omega, rfl, rfl⟩
        case round =>
          obtain ⟨j, hj, rfl, rfl⟩ := hrel
          by_cases hlt8 : j < 8
          · have h1 := un_lo (steps j x0)
            have HS := Lib.hid (un_step (steps j x0))
            go_wp2
            go_round
            case rel => exact ⟨j + 1, by omega, by go_num, congrArg _ HS.out⟩
            case measure => simp [intOf]; omega
          · obtain rfl : j = 8 := by omega
            have HN := Lib.hid (un_next v (List.take k (c :: b)) (at_ (c :: b) k))
            have HT := Lib.hid (take_snoc (c :: b) k (by simpa using hlt))
            rw [← HX0.out]
            go_wp2
            go_round
            case rel => exact ⟨k + 1, by omega, by go_num, by rw [HT.out, ← HN.out]⟩
            case measure => simp [intOf]; omega
      · obtain rfl : k = b.length + 1 := by omega
        have HK : List.take (b.length + 1) (c :: b) = c :: b := List.take_of_length_le (by simp)
        rw [HK]
        clear HK
        have hw1 : w.heap.size ≤ w1.heap.size := hb1.size
        have hown0 : Own .u8 5 (w1.alloc (.cells #[.int .u8 c] 5)) w.heap.size (.slice (some ⟨w1.heap.size, 0, none⟩) 1 1) [c] := own_new #[.int .u8 c] [c] rfl hb1.size (by simp)
        have hb2 : Below w.heap.size w (w1.alloc (.cells #[.int .u8 c] 5)) := hb1.alloc hb1.size _
        have e1 : (un (upd v (c :: b)) == un (upd v (c :: b))) = true := by simp
        go_wp2_with (first
          | (at_builtin; refine wpList_append_ints rfl (.tmp 50) (.tmp 51) _ rfl w.heap.size 5 .u8 1 Try.underlying22 byte_info (.slice (some ⟨w1.heap.size, 0, none⟩) 1 1) [c] rfl hown0 A cp b b.length rfl rfl ((hs.below hb2).more hb2.size) (by simp; omega) (by omega) hb2.size ?_; intro v3 w3 hown3 hg3 hat3; rw [List.singleton_append] at hown3; have hb3 : Below w.heap.size w w3 := hb2.grown hg3 hb2.size (fun k hk => (hown0.lt hk).1); obtain ⟨A3, cp3, rfl, hc3, hm3, hs3⟩ := hown3.ints; clear hat3 hg3 hown0)
          | (go_at_call 12; refine (update_any v A3 cp3 (c :: b) _ hs3 hby (by simp; omega)).mono ?_; rintro e w' ⟨rfl, rfl⟩)
          | (go_at_call 9; refine (awake_any _).mono ?_; rintro e w' ⟨rfl, hw⟩))
        go_ret
        exact ⟨rfl, hb3.trans (hw.mono hb3.size)⟩
  · have h1' : decide (b.length ≤ 600) = false := by simpa using h1
    go_enter Try.func7, Try.ntmps7
    go_wp2_with (first
      | (go_at_call 8; refine (short_any _ _ _ _ (by assumption)).mono ?_; rintro e w' ⟨rfl, rfl⟩)
      | (go_at_call 9; refine (awake_any _).mono ?_; rintro e w' ⟨rfl, hw⟩))
    go_ret
    exact ⟨rfl, hw⟩
end Go.Proofs.Ytgndnamgglihlaa
