/-
  The law CrcJoins answers true for all arguments: its walk. Conditions: none.
-/
import Derived.Test.YtgndnamgglihlaaW
import Derived.Test.YtgndnamgglihlaaG
namespace Go.Proofs.Ytgndnamgglihlaa
open Go.ChangeShapes Go.WideShapes Go.RowKit
set_option linter.unusedVariables false

theorem byte_info : (Try.prog.info? 5).map (fun i => (i.zero, i.size, i.bytes)) = some (some (.int .u8 0), 1, 1) := by kernel_rfl
theorem Byte.app {a b : List Int} (ha : Byte a) (hb : Byte b) : Byte (a ++ b) := fun n hn => by
  rcases List.mem_append.1 hn with h | h
  · exact ha n h
  · exact hb n h

theorem joins_any (A : Option Addr) (c : Nat) (a : List Int) (A' : Option Addr) (c' : Nat) (b : List Int) (w : World)
    (hs : Ints .u8 w w.heap.size A a) (hb : Byte a) (hl : a.length ≤ 9223372036854775807)
    (hs' : Ints .u8 w w.heap.size A' b) (hb' : Byte b) (hl' : b.length ≤ 9223372036854775807) :
    Calls Try.prog 4 #[.slice A a.length c, .slice A' b.length c'] w fun e w' => e = .returned (.bool true) ∧ Below w.heap.size w w' := by
  by_cases h1 : a.length ≤ 600
  · by_cases h2 : b.length ≤ 600
    · go_enter Try.func4, Try.ntmps4
      go_wp2_with fail
      refine (short_any _ _ _ _ hl).mono ?_; rintro e w' ⟨rfl, rfl⟩
      go_wp2_with fail
      refine (short_any _ _ _ _ hl').mono ?_; rintro e w' ⟨rfl, rfl⟩
      go_wp2_with (first
        | (at_builtin; refine wpList_append_ints rfl (.const (.slice none 0 0)) (.tmp 14) _ rfl w.heap.size 5 .u8 1 Try.underlying22 byte_info (.slice none 0 0) [] rfl (Own.nil_ _ _ _ _) A c a a.length rfl rfl hs (by simp; omega) (by omega) (Nat.le_refl _) ?_; intro v1 w1 hown1 hg1 hat1; rw [List.nil_append] at hown1; have hb1 : Below w.heap.size w w1 := (Below.refl _ _).grown hg1 (Nat.le_refl _) (by simp [Value.ownBlock]))
        | (at_builtin; refine wpList_append_ints rfl (.tmp 15) (.tmp 16) _ rfl w.heap.size 5 .u8 1 Try.underlying22 byte_info v1 a rfl hown1 A' c' b b.length rfl rfl (hs'.grow hb1) (by omega) (by omega) hb1.size ?_; intro v2 w2 hown2 hg2 hat2; have hb2 : Below w.heap.size w w2 := hb1.grown hg2 hb1.size (fun k hk => (hown1.lt hk).1); obtain ⟨A2, c2, rfl, hc2, hm2, hs2⟩ := hown2.ints; clear hown1 hat1 hown2 hg2 hat2))
      have hsum := sum_any A2 c2 (a ++ b) w2 hs2 (hb.app hb') (by simp; omega)
      rw [List.length_append] at hsum
      refine hsum.mono ?_; rintro e w' ⟨rfl, rfl⟩
      go_wp2_with fail
      refine (sum_any _ _ a _ ((hs.below hb2).more hb2.size) hb hl).mono ?_; rintro e w' ⟨rfl, rfl⟩
      go_wp2_with fail
      refine (update_any _ _ _ b _ ((hs'.below hb2).more hb2.size) hb' hl').mono ?_; rintro e w' ⟨rfl, rfl⟩
      have e1 : (un (upd 0#32 (a ++ b)) == un (upd (upd 0#32 a) b)) = true := by rw [upd_append]; simp
      have E2 := Lib.hid (upd_nil (upd 0#32 a))
      go_wp2_with fail
      refine (sum_any _ _ a _ ((hs.below hb2).more hb2.size) hb hl).mono ?_; rintro e w' ⟨rfl, rfl⟩
      go_wp2_with fail
      refine (update_any _ _ _ [] _ Ints.nil_ (by unfold Byte; simp) (by simp)).mono ?_; rw [E2.out]; rintro e w' ⟨rfl, rfl⟩
      have e3 : (un (upd 0#32 a) == un (upd 0#32 a)) = true := by simp
      go_wp2_with fail
      refine (sum_any _ _ a _ ((hs.below hb2).more hb2.size) hb hl).mono ?_; rintro e w' ⟨rfl, rfl⟩
      go_wp2_with fail
      refine (awake_any _).mono ?_; rintro e w' ⟨rfl, hw⟩
      go_wp2
      go_ret
      exact ⟨rfl, hb2.trans (hw.mono hb2.size)⟩
    · have h2' : decide (b.length ≤ 600) = false := by simpa using h2
      go_enter Try.func4, Try.ntmps4
      go_wp2_with (first
        | (go_at_call 8; refine (short_any _ _ _ _ (by assumption)).mono ?_; rintro e w' ⟨rfl, rfl⟩)
        | (go_at_call 9; refine (awake_any _).mono ?_; rintro e w' ⟨rfl, hw⟩))
      go_ret
      exact ⟨rfl, hw⟩
  · have h1' : decide (a.length ≤ 600) = false := by simpa using h1
    go_enter Try.func4, Try.ntmps4
    go_wp2_with (first
      | (go_at_call 8; refine (short_any _ _ _ _ (by assumption)).mono ?_; rintro e w' ⟨rfl, rfl⟩)
      | (go_at_call 9; refine (awake_any _).mono ?_; rintro e w' ⟨rfl, hw⟩))
    go_ret
    exact ⟨rfl, hw⟩
end Go.Proofs.Ytgndnamgglihlaa
